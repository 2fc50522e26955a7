/- Contracts of functions of the program and of its model, told over readings. -/
import Derived.Test.YtdhmnojnkgmmnaaAWGD
import Derived.Test.YtdhmnojnkgmmnaaAWGA
namespace Go.Proofs.Ytdhmnojnkgmmnaa
open Go.Lg
set_option maxHeartbeats 800000
set_option maxRecDepth 10000
set_option linter.unusedVariables false
set_option linter.unusedSimpArgs false

theorem in_iff {x : Int} {n : Nat} (hn : n ≤ 1000) : (leI 0 x && leI x (IntKind.i64.wrap ((n : Int) - 1))) = true ↔ 0 ≤ x ∧ x < n := by
  rw [wrap64 (by omega) (by omega), Bool.and_eq_true, leI_t, leI_t]
  omega

theorem unitedTo_succ {us : List Uni} {m f : Int} {j : Nat} (h : j < us.length) : (us.take (j + 1)).any (unitedOf m f) = ((us.take j).any (unitedOf m f) || unitedOf m f us[j]) := by
  rw [List.take_succ_eq_append_getElem h, List.any_append]
  simp
theorem united_yes {us : List Uni} {m f : Int} {j k : Nat} (hj : j < k) (h : j < us.length) (e : unitedOf m f us[j] = true) : (us.take k).any (unitedOf m f) = true := by
  rw [List.any_eq_true]
  refine ⟨us[j], ?_, e⟩
  rw [List.mem_take_iff_getElem]
  exact ⟨j, by omega, rfl⟩

/-- spec.l1Union -/
theorem l1Union_spec (ps : List Per) (us : List Uni) (k : Nat) (hk : k < us.length) (hl : ps.length ≤ 40) (hul : us.length ≤ 60) : FSpec env.P 205 [famLV ps us, .int .i64 (k : Int)] (.bool (unionOk ps (us.take k) us[k])) := by
  refine FSpec_of_code env_ok (fn := Try.f205) Try.func205 rfl Try.call205 _ _ ?_
  ((repeat ((conv => whnf); first | refine brT ?_ | refine brF ?_)); conv => whnf)
  refine ⟨k, us[k].lv, rfl, by simp [hk], rfl, ?_⟩
  ((repeat ((conv => whnf); first | refine brT ?_ | refine brF ?_)); conv => whnf)
  intro hn
  have hlen : ((ps.map Per.lv).length : Int) = ps.length := by simp
  rw [hlen]
  have hin : ∀ x : Int, (leI 0 x && leI x (IntKind.i64.wrap ((ps.length : Int) - 1))) = true ↔ 0 ≤ x ∧ x < ps.length := fun x => in_iff (by omega)
  have hno : ∀ x s : Int, ¬ (0 ≤ x ∧ x < ps.length) → ofSex ps x s = false := fun x s h => by
    cases e : ofSex ps x s with
    | false => rfl
    | true => obtain ⟨a, b, _⟩ := ofSex_lt e; exact absurd ⟨a, by omega⟩ h
  have hsex : ∀ (x s : Int) (h0 : 0 ≤ x) (h : x.toNat < ps.length), ofSex ps x s = eqI ps[x.toNat].sex s := fun x s h0 h => by
    unfold ofSex; rw [leI_t.2 h0, List.getElem?_eq_getElem h]; rfl
  ((repeat' (((repeat ((conv => whnf); first | refine brT ?_ | refine brF ?_)); conv => whnf); first | (refine And.intro ?_ ?_ <;> (intro h; rw [h]; revert h; intro _)) | (refine Exists.intro true (And.intro (a := drawB _ _ = true) (by kernel_rfl) ?_)) | (refine Exists.intro _ (And.intro (l1In_spec _ _ _) ?_)))); all_goals ((repeat ((conv => whnf); first | refine brT ?_ | refine brF ?_)); conv => whnf))
  all_goals first
    | (refine fin ?_; grind [unionOk, notB_t, notB_f])
    | skip
  rename_i a1 a2
  rw [notB_f, hin] at a1 a2
  have ml : us[k].husband.toNat < ps.length := by omega
  have wl : us[k].wife.toNat < ps.length := by omega
  have hm := hsex us[k].husband 1 a1.1 ml
  have hw := hsex us[k].wife 2 a2.1 wl
  have hb : bothFit ps us[k] = (fits us[k] ps[us[k].husband.toNat] && fits us[k] ps[us[k].wife.toNat]) := by simp [bothFit, ml, wl]
  refine ⟨us[k].husband.toNat, ps[us[k].husband.toNat].lv, by omega, by simp [ml], rfl, ?_⟩
  ((repeat ((conv => whnf); first | refine brT ?_ | refine brF ?_)); conv => whnf)
  (refine ⟨fun b1 => ?_, fun b1 => ?_⟩ <;> rw [b1])
  · rw [notB_t] at b1
    ((repeat ((conv => whnf); first | refine brT ?_ | refine brF ?_)); conv => whnf); refine fin ?_
    simp [unionOk, hm, b1]
  rw [notB_f] at b1
  ((repeat ((conv => whnf); first | refine brT ?_ | refine brF ?_)); conv => whnf)
  refine ⟨us[k].wife.toNat, ps[us[k].wife.toNat].lv, by omega, by simp [wl], rfl, ?_⟩
  ((repeat' (((repeat ((conv => whnf); first | refine brT ?_ | refine brF ?_)); conv => whnf); first | (refine And.intro ?_ ?_ <;> (intro h; rw [h]; revert h; intro _)) | (refine Exists.intro true (And.intro (a := drawB _ _ = true) (by kernel_rfl) ?_)) | (refine Exists.intro _ (And.intro (l1In_spec _ _ _) ?_)))); all_goals ((repeat ((conv => whnf); first | refine brT ?_ | refine brF ?_)); conv => whnf))
  all_goals first
    | (refine fin ?_; grind [unionOk, endYear, notB_t, notB_f, ltI_t, ltI_f, leI_t, leI_f])
    | skip
  all_goals
    have hu : unionOk ps (us.take k) us[k] = (notB ((us.take k).any (unitedOf us[k].husband us[k].wife)) && (fits us[k] ps[us[k].husband.toNat] && fits us[k] ps[us[k].wife.toNat])) := by
      have s3 : leI us[k].since 9999 = true := by grind [ltI_t, ltI_f, leI_t, leI_f]
      have s4 : endYear us[k].till us[k].since = true := by grind [endYear, notB_t, notB_f]
      have s5 : ofSex ps us[k].wife 2 = true := by grind [notB_t, notB_f]
      unfold unionOk
      rw [hb, hm, b1, s3, s4, s5]
      simp
    refine ⟨rfl, fun _ => ?_⟩
    ((repeat ((conv => whnf); first | refine brT ?_ | refine brF ?_)); conv => whnf)
    refine loop_rule (α := Nat) (fun j => [(75, .int .i64 (j : Int))]) (fun j => [.box (famLV ps us), .box us[k].lv, .arr 3 1 [.int .i64 us[k].husband, .int .i64 us[k].wife]]) (fun j => 2 - j)
      (fun j => j ≤ 2 ∧ ∀ i (h : i < 2), i < j → fits us[k] ([ps[us[k].husband.toNat], ps[us[k].wife.toNat]][i]'h) = true) 0 ⟨Nat.zero_le _, fun j h k => by omega⟩ ?_ ?_
    · refine ⟨?_, ⟨rfl, rfl, rfl, trivial⟩, rfl, rfl⟩
      ((repeat ((conv => whnf); refine ⟨rfl, ?_⟩)); trivial)
    rintro j ⟨hj, hf⟩
    ((repeat ((conv => whnf); first | refine brT ?_ | refine brF ?_)); conv => whnf)
    (refine ⟨fun h1 => ?_, fun h1 => ?_⟩ <;> rw [h1])
    · have hlt : j < 2 := by rw [ltI_t] at h1; simp at h1; omega
      have e : LV.int .i64 (IntKind.i64.wrap ((j : Int) + 1)) = LV.int .i64 ((j + 1 : Nat) : Int) := step_i hlt (by decide)
      have hfno : fits us[k] ([ps[us[k].husband.toNat], ps[us[k].wife.toNat]][j]'hlt) = false → unionOk ps (us.take k) us[k] = false := fun h => by
        rw [hu]
        match j, hlt, h with
        | 0, _, h => simp at h; simp [h]
        | 1, _, h => simp at h; simp [h]
      have hx : ∃ x : Int, ([LV.int .i64 us[k].husband, LV.int .i64 us[k].wife])[j]? = some (.int .i64 x) ∧ 0 ≤ x ∧ ∃ h : x.toNat < ps.length, ps[x.toNat] = [ps[us[k].husband.toNat], ps[us[k].wife.toNat]][j]'hlt := by
        match j, hlt with
        | 0, _ => exact ⟨_, rfl, a1.1, ml, rfl⟩
        | 1, _ => exact ⟨_, rfl, a2.1, wl, rfl⟩
      obtain ⟨x, hx1, hx2, hx3, hx4⟩ := hx
      ((repeat ((conv => whnf); first | refine brT ?_ | refine brF ?_)); conv => whnf)
      refine ⟨rfl, by decide, j, rfl, hlt, ?_⟩
      ((repeat ((conv => whnf); first | refine brT ?_ | refine brF ?_)); conv => whnf)
      refine ⟨rfl, by simp, .int .i64 x, by simp only [getP, hx1], rfl, ?_⟩
      ((repeat ((conv => whnf); first | refine brT ?_ | refine brF ?_)); conv => whnf)
      refine ⟨x.toNat, ps[x.toNat].lv, by omega, by simp [hx3], rfl, ?_⟩
      rw [hx4]
      generalize hq : [ps[us[k].husband.toNat], ps[us[k].wife.toNat]][j]'hlt = q at hfno
      ((repeat' (((repeat ((conv => whnf); first | refine brT ?_ | refine brF ?_)); conv => whnf); (refine And.intro ?_ ?_ <;> (intro h; rw [h]; revert h; intro _)))); all_goals ((repeat ((conv => whnf); first | refine brT ?_ | refine brF ?_)); conv => whnf))
      all_goals first
        | (refine fin ?_
           rw [hfno]
           have hmx : leI (maxI us[k].since us[k].till) q.died = (leI us[k].since q.died && leI us[k].till q.died) := by
             rw [Bool.eq_iff_iff]; simp only [Bool.and_eq_true, leI_t]; unfold maxI; split <;> omega
           simp only [fits, livedTo, hmx]
           grind [notB_t, notB_f, ltI_t, ltI_f, leI_t, leI_f, eqI_t, eqI_f])
        | skip
      all_goals
        refine round_end (j + 1) ⟨hlt, fun i hi hij => ?_⟩ (by omega) ⟨?_, ⟨rfl, rfl, rfl, trivial⟩, rfl, rfl⟩
        · by_cases ej : i = j
          · subst ej
            rw [hq]
            have hmx : leI (maxI us[k].since us[k].till) q.died = (leI us[k].since q.died && leI us[k].till q.died) := by
              rw [Bool.eq_iff_iff]; simp only [Bool.and_eq_true, leI_t]; unfold maxI; split <;> omega
            simp only [fits, livedTo, hmx]
            grind [notB_t, notB_f, ltI_t, ltI_f, leI_t, leI_f, eqI_t, eqI_f]
          · exact hf i hi (by omega)
        · ((repeat ((conv => whnf); first | refine ⟨e, ?_⟩ | refine ⟨rfl, ?_⟩)); trivial)
    · have h3 : j = 2 := by rw [ltI_f] at h1; simp at h1; omega
      subst h3
      have f0 := hf 0 (by omega) (by omega)
      have f1 := hf 1 (by omega) (by omega)
      simp at f0 f1
      have hu' : unionOk ps (us.take k) us[k] = notB ((us.take k).any (unitedOf us[k].husband us[k].wife)) := by rw [hu, f0, f1]; simp
      ((repeat ((conv => whnf); first | refine brT ?_ | refine brF ?_)); conv => whnf)
      refine loop_rule (α := Nat) (fun j => [(10, .int .i64 (j : Int))]) (fun j => [.box (famLV ps us), .box us[k].lv, .arr 3 1 [.int .i64 us[k].husband, .int .i64 us[k].wife]]) (fun j => k - j)
        (fun j => j ≤ k ∧ (us.take j).any (unitedOf us[k].husband us[k].wife) = false) 0 ⟨Nat.zero_le _, rfl⟩ ?_ ?_
      · refine ⟨?_, ⟨rfl, rfl, rfl, trivial⟩, rfl, rfl⟩
        ((repeat ((conv => whnf); refine ⟨rfl, ?_⟩)); trivial)
      rintro j ⟨hj, hf⟩
      ((repeat ((conv => whnf); first | refine brT ?_ | refine brF ?_)); conv => whnf)
      (refine ⟨fun g1 => ?_, fun g1 => ?_⟩ <;> rw [g1])
      · have hjl : j < k := by rw [ltI_t] at g1; omega
        have hju : j < us.length := by omega
        have e := step_i hjl (by unfold Go.maxLen; omega)
        ((repeat ((conv => whnf); first | refine brT ?_ | refine brF ?_)); conv => whnf)
        refine ⟨true, by kernel_rfl, ?_⟩
        ((repeat ((conv => whnf); first | refine brT ?_ | refine brF ?_)); conv => whnf)
        refine ⟨j, us[j].lv, rfl, by simp [hju], rfl, ?_⟩
        ((repeat ((conv => whnf); first | refine brT ?_ | refine brF ?_)); conv => whnf)
        (refine ⟨fun g2 => ?_, fun g2 => ?_⟩ <;> rw [g2])
        · ((repeat ((conv => whnf); first | refine brT ?_ | refine brF ?_)); conv => whnf)
          refine ⟨j, us[j].lv, rfl, by simp [hju], rfl, ?_⟩
          ((repeat ((conv => whnf); first | refine brT ?_ | refine brF ?_)); conv => whnf)
          (refine ⟨fun g3 => ?_, fun g3 => ?_⟩ <;> rw [g3])
          · ((repeat ((conv => whnf); first | refine brT ?_ | refine brF ?_)); conv => whnf)
            refine fin ?_
            rw [hu', united_yes hjl hju (by simp [unitedOf, g2, g3])]
            simp [notB]
          · ((repeat ((conv => whnf); first | refine brT ?_ | refine brF ?_)); conv => whnf)
            refine round_end (j + 1) ⟨hjl, by rw [unitedTo_succ hju, hf]; simp [unitedOf, g3]⟩ (by omega) ⟨?_, ⟨rfl, rfl, rfl, trivial⟩, rfl, rfl⟩
            ((repeat ((conv => whnf); first | refine ⟨e, ?_⟩ | refine ⟨rfl, ?_⟩)); trivial)
        · ((repeat ((conv => whnf); first | refine brT ?_ | refine brF ?_)); conv => whnf)
          refine round_end (j + 1) ⟨hjl, by rw [unitedTo_succ hju, hf]; simp [unitedOf, g2]⟩ (by omega) ⟨?_, ⟨rfl, rfl, rfl, trivial⟩, rfl, rfl⟩
          ((repeat ((conv => whnf); first | refine ⟨e, ?_⟩ | refine ⟨rfl, ?_⟩)); trivial)
      · have hjk : j = k := by rw [ltI_f] at g1; omega
        subst hjk
        ((repeat ((conv => whnf); first | refine brT ?_ | refine brF ?_)); conv => whnf)
        refine fin ?_
        rw [hu', hf]
        simp [notB]
end Go.Proofs.Ytdhmnojnkgmmnaa

namespace Go.Proofs.Ytdhmnojnkgmmnaa
open Go.Lg
set_option maxHeartbeats 400000
set_option maxRecDepth 10000
set_option linter.unusedVariables false
set_option linter.unusedSimpArgs false

/-- impl.isPersonAfter -/
def personOk (ps : List Per) (p : Per) : Bool := match findFrom p.name 0 ps with
  | some _ => false
  | none => isName p.name && ((eqI p.sex 1 || eqI p.sex 2) && ((leI 0 p.born && (leI p.born 9999 && endYear p.died p.born)) &&
      (parentOk ps p.father 1 p.born && parentOk ps p.mother 2 p.born)))
theorem isPersonAfter_spec (ps : List Per) (p : Per) : FSpec env.P 206 [.sl (ps.map Per.lv), p.lv] (.bool (personOk ps p)) := by
  refine FSpec_of_code env_ok (fn := Try.f206) Try.func206 rfl Try.call206 _ _ ?_
  ((repeat ((conv => whnf); first | refine brT ?_ | refine brF ?_)); conv => whnf)
  refine ⟨_, indexOfName_spec ps p.name, ?_⟩
  cases hf : findFrom p.name 0 ps with
  | some i =>
    ((repeat ((conv => whnf); first | refine brT ?_ | refine brF ?_)); conv => whnf)
    refine fin ?_
    simp [personOk, hf]
  | none =>
    ((repeat ((conv => whnf); first | refine brT ?_ | refine brF ?_)); conv => whnf)
    refine ⟨_, isNameImpl_spec p.name, ?_⟩
    ((repeat ((conv => whnf); first | refine brT ?_ | refine brF ?_)); conv => whnf)
    refine ⟨fun h => ?_, fun h => ?_⟩ <;> rw [h]
    · ((repeat ((conv => whnf); first | refine brT ?_ | refine brF ?_)); conv => whnf); refine fin ?_; rw [notB_t] at h; simp [personOk, hf, h]
    rw [notB_f] at h
    ((repeat ((conv => whnf); first | refine brT ?_ | refine brF ?_)); conv => whnf)
    refine ⟨fun h1 => ?_, fun h1 => ?_⟩ <;> rw [h1]
    · rw [notB_t] at h1
      ((repeat ((conv => whnf); first | refine brT ?_ | refine brF ?_)); conv => whnf)
      refine ⟨fun h2 => ?_, fun h2 => ?_⟩ <;> rw [h2]
      · ((repeat ((conv => whnf); first | refine brT ?_ | refine brF ?_)); conv => whnf); refine fin ?_; rw [notB_t] at h2; simp [personOk, hf, h1, h2]
      rw [notB_f] at h2
      have hs : (eqI p.sex 1 || eqI p.sex 2) = true := by simp [h2]
      ((repeat ((conv => whnf); first | refine brT ?_ | refine brF ?_)); conv => whnf)
      refine ⟨fun b1 => ?_, fun b1 => ?_⟩ <;> rw [b1]
      · ((repeat ((conv => whnf); first | refine brT ?_ | refine brF ?_)); conv => whnf); refine fin ?_; have c1 : leI 0 p.born = false := by rw [leI_f]; rw [ltI_t] at b1; exact b1
        simp [personOk, hf, c1]
      have c1 : leI 0 p.born = true := by rw [leI_t]; rw [ltI_f] at b1; exact b1
      ((repeat ((conv => whnf); first | refine brT ?_ | refine brF ?_)); conv => whnf)
      refine ⟨fun b2 => ?_, fun b2 => ?_⟩ <;> rw [b2]
      · ((repeat ((conv => whnf); first | refine brT ?_ | refine brF ?_)); conv => whnf); refine fin ?_; have c2 : leI p.born 9999 = false := by rw [leI_f]; rw [ltI_t] at b2; exact b2
        simp [personOk, hf, c2]
      have c2 : leI p.born 9999 = true := by rw [leI_t]; rw [ltI_f] at b2; exact b2
      ((repeat ((conv => whnf); first | refine brT ?_ | refine brF ?_)); conv => whnf)
      refine ⟨_, isEndYear_spec _ _, ?_⟩
      ((repeat ((conv => whnf); first | refine brT ?_ | refine brF ?_)); conv => whnf)
      refine ⟨fun b3 => ?_, fun b3 => ?_⟩ <;> rw [b3]
      · ((repeat ((conv => whnf); first | refine brT ?_ | refine brF ?_)); conv => whnf); refine fin ?_; rw [notB_t] at b3; simp [personOk, hf, b3]
      rw [notB_f] at b3
      ((repeat ((conv => whnf); first | refine brT ?_ | refine brF ?_)); conv => whnf)
      refine ⟨_, isParentOf_spec ps _ _ _, ?_⟩
      ((repeat ((conv => whnf); first | refine brT ?_ | refine brF ?_)); conv => whnf)
      refine ⟨fun b4 => ?_, fun b4 => ?_⟩ <;> rw [b4]
      · ((repeat ((conv => whnf); first | refine brT ?_ | refine brF ?_)); conv => whnf)
        refine ⟨_, isParentOf_spec ps _ _ _, ?_⟩
        ((repeat ((conv => whnf); first | refine brT ?_ | refine brF ?_)); conv => whnf); refine fin ?_; simp [personOk, hf, h, hs, c1, c2, b3, b4]
      · ((repeat ((conv => whnf); first | refine brT ?_ | refine brF ?_)); conv => whnf); refine fin ?_; simp [personOk, hf, b4]
    · rw [notB_f] at h1
      have hs : (eqI p.sex 1 || eqI p.sex 2) = true := by simp [h1]
      ((repeat ((conv => whnf); first | refine brT ?_ | refine brF ?_)); conv => whnf)
      refine ⟨fun b1 => ?_, fun b1 => ?_⟩ <;> rw [b1]
      · ((repeat ((conv => whnf); first | refine brT ?_ | refine brF ?_)); conv => whnf); refine fin ?_; have c1 : leI 0 p.born = false := by rw [leI_f]; rw [ltI_t] at b1; exact b1
        simp [personOk, hf, c1]
      have c1 : leI 0 p.born = true := by rw [leI_t]; rw [ltI_f] at b1; exact b1
      ((repeat ((conv => whnf); first | refine brT ?_ | refine brF ?_)); conv => whnf)
      refine ⟨fun b2 => ?_, fun b2 => ?_⟩ <;> rw [b2]
      · ((repeat ((conv => whnf); first | refine brT ?_ | refine brF ?_)); conv => whnf); refine fin ?_; have c2 : leI p.born 9999 = false := by rw [leI_f]; rw [ltI_t] at b2; exact b2
        simp [personOk, hf, c2]
      have c2 : leI p.born 9999 = true := by rw [leI_t]; rw [ltI_f] at b2; exact b2
      ((repeat ((conv => whnf); first | refine brT ?_ | refine brF ?_)); conv => whnf)
      refine ⟨_, isEndYear_spec _ _, ?_⟩
      ((repeat ((conv => whnf); first | refine brT ?_ | refine brF ?_)); conv => whnf)
      refine ⟨fun b3 => ?_, fun b3 => ?_⟩ <;> rw [b3]
      · ((repeat ((conv => whnf); first | refine brT ?_ | refine brF ?_)); conv => whnf); refine fin ?_; rw [notB_t] at b3; simp [personOk, hf, b3]
      rw [notB_f] at b3
      ((repeat ((conv => whnf); first | refine brT ?_ | refine brF ?_)); conv => whnf)
      refine ⟨_, isParentOf_spec ps _ _ _, ?_⟩
      ((repeat ((conv => whnf); first | refine brT ?_ | refine brF ?_)); conv => whnf)
      refine ⟨fun b4 => ?_, fun b4 => ?_⟩ <;> rw [b4]
      · ((repeat ((conv => whnf); first | refine brT ?_ | refine brF ?_)); conv => whnf)
        refine ⟨_, isParentOf_spec ps _ _ _, ?_⟩
        ((repeat ((conv => whnf); first | refine brT ?_ | refine brF ?_)); conv => whnf); refine fin ?_; simp [personOk, hf, h, hs, c1, c2, b3, b4]
      · ((repeat ((conv => whnf); first | refine brT ?_ | refine brF ?_)); conv => whnf); refine fin ?_; simp [personOk, hf, b4]
end Go.Proofs.Ytdhmnojnkgmmnaa

namespace Go.Proofs.Ytdhmnojnkgmmnaa
open Go.Lg
set_option maxHeartbeats 800000
set_option maxRecDepth 10000
set_option linter.unusedVariables false
set_option linter.unusedSimpArgs false

def personsTo (ps : List Per) (k : Nat) : Bool := (List.range k).all fun i => match ps[i]? with | some p => personOk (ps.take i) p | none => true
def unionsTo (ps : List Per) (us : List Uni) (k : Nat) : Bool := (List.range k).all fun i => match us[i]? with | some u => unionOk ps (us.take i) u | none => true
def shallow (ds : List Int) : Bool := ds.all fun d => leI d 10
def famOk (ps : List Per) (us : List Uni) : Bool := decide (ps.length ≤ 40) && (decide (us.length ≤ 60) && (personsTo ps ps.length && (unionsTo ps us us.length && shallow (depths ps))))

theorem personsTo_succ {ps : List Per} {k : Nat} (h : k < ps.length) : personsTo ps (k + 1) = (personsTo ps k && personOk (ps.take k) ps[k]) := by
  unfold personsTo
  rw [List.range_succ, List.all_append]
  simp [h]
theorem personsTo_no {ps : List Per} {i k : Nat} (hi : i < k) (h : i < ps.length) (e : personOk (ps.take i) ps[i] = false) : personsTo ps k = false := by
  unfold personsTo
  rw [List.all_eq_false]
  exact ⟨i, List.mem_range.2 hi, by simp [h, e]⟩
theorem unionsTo_succ {ps : List Per} {us : List Uni} {k : Nat} (h : k < us.length) : unionsTo ps us (k + 1) = (unionsTo ps us k && unionOk ps (us.take k) us[k]) := by
  unfold unionsTo
  rw [List.range_succ, List.all_append]
  simp [h]
theorem unionsTo_no {ps : List Per} {us : List Uni} {i k : Nat} (hi : i < k) (h : i < us.length) (e : unionOk ps (us.take i) us[i] = false) : unionsTo ps us k = false := by
  unfold unionsTo
  rw [List.all_eq_false]
  exact ⟨i, List.mem_range.2 hi, by simp [h, e]⟩
theorem personsTo_get {ps : List Per} {k : Nat} (h : personsTo ps k = true) {i : Nat} (hi : i < k) (hl : i < ps.length) : personOk (ps.take i) ps[i] = true := by
  cases e : personOk (ps.take i) ps[i] with
  | true => rfl
  | false => rw [personsTo_no hi hl e] at h; cases h

theorem personOk_spec {ps : List Per} {p : Per} (h : personOk ps p = true) : findFrom p.name 0 ps = none ∧ isName p.name = true ∧ (p.sex = 1 ∨ p.sex = 2) ∧ 0 ≤ p.born ∧ p.born ≤ 9999 ∧ (p.died = -1 ∨ (p.born ≤ p.died ∧ p.died ≤ 9999)) ∧
    parentOk ps p.father 1 p.born = true ∧ parentOk ps p.mother 2 p.born = true := by
  unfold personOk at h
  split at h
  · cases h
  · rename_i hf
    simp only [endYear, Bool.and_eq_true, Bool.or_eq_true, leI_t, eqI_t] at h
    grind
theorem parentOk_in {ps : List Per} {x s b : Int} (h : parentOk ps x s b = true) : parIn x ps.length := by
  unfold parentOk at h
  simp only [Bool.or_eq_true, eqI_t, Bool.and_eq_true, leI_t] at h
  rcases h with h | ⟨h0, h1⟩
  · exact .inl h
  · split at h1
    · cases h1
    · rename_i q hq
      have := lt_of_get hq
      exact .inr ⟨h0, by omega⟩
theorem parsIn_of {ps : List Per} (h : personsTo ps ps.length = true) : parsIn ps := by
  intro i hi
  obtain ⟨_, _, _, _, _, _, h1, h2⟩ := personOk_spec (personsTo_get h hi hi)
  have e : (ps.take i).length = i := by simp; omega
  have a := parentOk_in h1
  have b := parentOk_in h2
  rw [e] at a b
  exact ⟨a, b⟩

theorem shallow_succ {ds : List Int} {k : Nat} (h : k < ds.length) : shallow (ds.take (k + 1)) = (shallow (ds.take k) && leI ds[k] 10) := by
  unfold shallow
  rw [List.take_succ_eq_append_getElem h, List.all_append]
  simp
theorem shallow_no {ds : List Int} {k : Nat} (h : k < ds.length) (e : ltI 10 ds[k] = true) : shallow ds = false := by
  unfold shallow
  rw [List.all_eq_false]
  refine ⟨ds[k], List.getElem_mem h, ?_⟩
  rw [ltI_t] at e
  rw [Bool.not_eq_true, leI_f]; omega
theorem shallow_le {a : Int} (h : ltI 10 a = false) : leI a 10 = true := by rw [leI_t]; rw [ltI_f] at h; omega

theorem isPersonAfter_take (ps : List Per) (k : Nat) (p : Per) : FSpec env.P 206 [.sl (((ps.map Per.lv).drop 0).take (k - 0)), p.lv] (.bool (personOk (ps.take k) p)) := by
  have := isPersonAfter_spec (ps.take k) p
  rw [List.map_take] at this
  simpa using this
theorem isUnionAfter_take (ps : List Per) (us : List Uni) (k : Nat) (u : Uni) : FSpec env.P 207 [.sl (((us.map Uni.lv).drop 0).take (k - 0)), u.lv, .sl (ps.map Per.lv)] (.bool (unionOk ps (us.take k) u)) := by
  have := isUnionAfter_spec ps (us.take k) u
  rw [List.map_take] at this
  simpa using this

/-- impl.IsFamily -/
theorem isFamily_impl (ps : List Per) (us : List Uni) : FSpec env.P 115 [famLV ps us] (.bool (famOk ps us)) := by
  refine FSpec_of_code env_ok (fn := Try.f115) Try.func115 rfl Try.call115 _ _ ?_
  ((repeat ((conv => whnf); first | refine brT ?_ | refine brF ?_)); conv => whnf)
  intro hpn
  ((repeat ((conv => whnf); first | refine brT ?_ | refine brF ?_)); conv => whnf)
  (refine ⟨fun h1 => ?_, fun h1 => ?_⟩ <;> rw [h1])
  · ((repeat ((conv => whnf); first | refine brT ?_ | refine brF ?_)); conv => whnf)
    refine fin ?_
    have : decide (ps.length ≤ 40) = false := by rw [ltI_t] at h1; simp at h1; simp; omega
    simp [famOk, this]
  have hl : ps.length ≤ 40 := by rw [ltI_f] at h1; simp at h1; omega
  ((repeat ((conv => whnf); first | refine brT ?_ | refine brF ?_)); conv => whnf)
  intro hun
  ((repeat ((conv => whnf); first | refine brT ?_ | refine brF ?_)); conv => whnf)
  (refine ⟨fun h2 => ?_, fun h2 => ?_⟩ <;> rw [h2])
  · ((repeat ((conv => whnf); first | refine brT ?_ | refine brF ?_)); conv => whnf)
    refine fin ?_
    have : decide (us.length ≤ 60) = false := by rw [ltI_t] at h2; simp at h2; simp; omega
    simp [famOk, this]
  have hul : us.length ≤ 60 := by rw [ltI_f] at h2; simp at h2; omega
  have hp' : ps.length ≤ Go.maxLen := by simpa using hpn
  have hu' : us.length ≤ Go.maxLen := by simpa using hun
  have hfam : famOk ps us = (personsTo ps ps.length && (unionsTo ps us us.length && shallow (depths ps))) := by simp [famOk, hl, hul]
  ((repeat ((conv => whnf); first | refine brT ?_ | refine brF ?_)); conv => whnf)
  intro _
  ((repeat ((conv => whnf); first | refine brT ?_ | refine brF ?_)); conv => whnf)
  refine loop_rule (α := Nat) (fun k => [(22, .int .i64 (k : Int))]) (fun k => [.box (famLV ps us)]) (fun k => ps.length - k) (fun k => k ≤ ps.length ∧ personsTo ps k = true) 0 ⟨Nat.zero_le _, rfl⟩ ?_ ?_
  · refine ⟨?_, ⟨rfl, trivial⟩, rfl, rfl⟩
    ((repeat ((conv => whnf); refine ⟨rfl, ?_⟩)); trivial)
  rintro k ⟨hk, hok⟩
  ((repeat ((conv => whnf); first | refine brT ?_ | refine brF ?_)); conv => whnf)
  (refine ⟨fun g1 => ?_, fun g1 => ?_⟩ <;> rw [g1])
  · have hlt : k < ps.length := by rw [ltI_t] at g1; simp at g1; omega
    have e := step_i hlt hp'
    ((repeat ((conv => whnf); first | refine brT ?_ | refine brF ?_)); conv => whnf)
    refine ⟨k, ps[k].lv, rfl, by simp [hlt], rfl, ?_⟩
    ((repeat ((conv => whnf); first | refine brT ?_ | refine brF ?_)); conv => whnf)
    refine ⟨true, by kernel_rfl, ?_⟩
    ((repeat ((conv => whnf); first | refine brT ?_ | refine brF ?_)); conv => whnf)
    refine ⟨0, k, rfl, rfl, by omega, by simp; omega, by simp [Per.lv, LV.size, LV.sizes], ?_⟩
    ((repeat ((conv => whnf); first | refine brT ?_ | refine brF ?_)); conv => whnf)
    refine ⟨_, isPersonAfter_take ps k ps[k], ?_⟩
    ((repeat ((conv => whnf); first | refine brT ?_ | refine brF ?_)); conv => whnf)
    (refine ⟨fun g2 => ?_, fun g2 => ?_⟩ <;> rw [g2])
    · rw [notB_t] at g2
      ((repeat ((conv => whnf); first | refine brT ?_ | refine brF ?_)); conv => whnf)
      refine fin ?_
      rw [hfam, personsTo_no hlt hlt g2]
      rfl
    · rw [notB_f] at g2
      ((repeat ((conv => whnf); first | refine brT ?_ | refine brF ?_)); conv => whnf)
      refine round_end (k + 1) ⟨hlt, by rw [personsTo_succ hlt, hok, g2]; rfl⟩ (by omega) ⟨?_, ⟨rfl, trivial⟩, rfl, rfl⟩
      ((repeat ((conv => whnf); first | refine ⟨e, ?_⟩ | refine ⟨rfl, ?_⟩)); trivial)
  have hkl : k = ps.length := by rw [ltI_f] at g1; simp at g1; omega
  subst hkl
  have hpars := parsIn_of hok
  ((repeat ((conv => whnf); first | refine brT ?_ | refine brF ?_)); conv => whnf)
  intro _
  ((repeat ((conv => whnf); first | refine brT ?_ | refine brF ?_)); conv => whnf)
  refine loop_rule (α := Nat) (fun k => [(38, .int .i64 (k : Int))]) (fun k => [.box (famLV ps us)]) (fun k => us.length - k) (fun k => k ≤ us.length ∧ unionsTo ps us k = true) 0 ⟨Nat.zero_le _, rfl⟩ ?_ ?_
  · refine ⟨?_, ⟨rfl, trivial⟩, rfl, rfl⟩
    ((repeat ((conv => whnf); refine ⟨rfl, ?_⟩)); trivial)
  rintro j ⟨hj, huok⟩
  ((repeat ((conv => whnf); first | refine brT ?_ | refine brF ?_)); conv => whnf)
  (refine ⟨fun j1 => ?_, fun j1 => ?_⟩ <;> rw [j1])
  · have hlt : j < us.length := by rw [ltI_t] at j1; simp at j1; omega
    have e := step_i hlt hu'
    ((repeat ((conv => whnf); first | refine brT ?_ | refine brF ?_)); conv => whnf)
    refine ⟨j, us[j].lv, rfl, by simp [hlt], rfl, ?_⟩
    ((repeat ((conv => whnf); first | refine brT ?_ | refine brF ?_)); conv => whnf)
    refine ⟨true, by kernel_rfl, ?_⟩
    ((repeat ((conv => whnf); first | refine brT ?_ | refine brF ?_)); conv => whnf)
    refine ⟨0, j, rfl, rfl, by omega, by simp; omega, by simp [Uni.lv, LV.size, LV.sizes], ?_⟩
    ((repeat ((conv => whnf); first | refine brT ?_ | refine brF ?_)); conv => whnf)
    refine ⟨_, isUnionAfter_take ps us j us[j], ?_⟩
    ((repeat ((conv => whnf); first | refine brT ?_ | refine brF ?_)); conv => whnf)
    (refine ⟨fun j2 => ?_, fun j2 => ?_⟩ <;> rw [j2])
    · rw [notB_t] at j2
      ((repeat ((conv => whnf); first | refine brT ?_ | refine brF ?_)); conv => whnf)
      refine fin ?_
      rw [hfam, unionsTo_no hlt hlt j2]
      simp
    · rw [notB_f] at j2
      ((repeat ((conv => whnf); first | refine brT ?_ | refine brF ?_)); conv => whnf)
      refine round_end (j + 1) ⟨hlt, by rw [unionsTo_succ hlt, huok, j2]; rfl⟩ (by omega) ⟨?_, ⟨rfl, trivial⟩, rfl, rfl⟩
      ((repeat ((conv => whnf); first | refine ⟨e, ?_⟩ | refine ⟨rfl, ?_⟩)); trivial)
  have hjl : j = us.length := by rw [ltI_f] at j1; simp at j1; omega
  subst hjl
  have hfam2 : famOk ps us = shallow (depths ps) := by rw [hfam, hok, huok]; rfl
  ((repeat ((conv => whnf); first | refine brT ?_ | refine brF ?_)); conv => whnf)
  refine ⟨_, depthsOf_spec ps hl hpars, ?_⟩
  ((repeat ((conv => whnf); first | refine brT ?_ | refine brF ?_)); conv => whnf)
  intro hdn
  have hd' : (depths ps).length ≤ Go.maxLen := by simpa using hdn
  ((repeat ((conv => whnf); first | refine brT ?_ | refine brF ?_)); conv => whnf)
  refine loop_rule (α := Nat) (fun k => [(57, .int .i64 (k : Int))]) (fun k => [.box (famLV ps us)]) (fun k => (depths ps).length - k) (fun k => k ≤ (depths ps).length ∧ shallow ((depths ps).take k) = true) 0 ⟨Nat.zero_le _, rfl⟩ ?_ ?_
  · refine ⟨?_, ⟨rfl, trivial⟩, rfl, rfl⟩
    ((repeat ((conv => whnf); refine ⟨rfl, ?_⟩)); trivial)
  rintro i ⟨hi, hsh⟩
  ((repeat ((conv => whnf); first | refine brT ?_ | refine brF ?_)); conv => whnf)
  (refine ⟨fun d1 => ?_, fun d1 => ?_⟩ <;> rw [d1])
  · have hlt : i < (depths ps).length := by rw [ltI_t] at d1; simp at d1; omega
    have e := step_i hlt hd'
    ((repeat ((conv => whnf); first | refine brT ?_ | refine brF ?_)); conv => whnf)
    refine ⟨i, .int .i64 (depths ps)[i], rfl, by simp [hlt, intLV], rfl, ?_⟩
    ((repeat ((conv => whnf); first | refine brT ?_ | refine brF ?_)); conv => whnf)
    (refine ⟨fun d2 => ?_, fun d2 => ?_⟩ <;> rw [d2])
    · ((repeat ((conv => whnf); first | refine brT ?_ | refine brF ?_)); conv => whnf)
      refine fin ?_
      rw [hfam2, shallow_no hlt d2]
    · ((repeat ((conv => whnf); first | refine brT ?_ | refine brF ?_)); conv => whnf)
      refine round_end (i + 1) ⟨hlt, by rw [shallow_succ hlt, hsh, shallow_le d2]; rfl⟩ (by omega) ⟨?_, ⟨rfl, trivial⟩, rfl, rfl⟩
      ((repeat ((conv => whnf); first | refine ⟨e, ?_⟩ | refine ⟨rfl, ?_⟩)); trivial)
  · have hil : i = (depths ps).length := by rw [ltI_f] at d1; simp at d1; omega
    subst hil
    rw [List.take_length] at hsh
    ((repeat ((conv => whnf); first | refine brT ?_ | refine brF ?_)); conv => whnf)
    refine fin ?_
    rw [hfam2, hsh]

/-- Asked of the person in the family, or of the person behind those before: the same, if those before are valid. -/
theorem parentAt_eq {ps : List Per} {i : Nat} {x sex born late : Int} (hl : i < ps.length) (hok : personsTo ps i = true) (h0 : 0 ≤ born) (h1 : born ≤ 9999) (hs : (sex = 1 ∧ late = 1) ∨ (sex = 2 ∧ late = 0)) :
    parentAt ps i x sex late born = parentOk (ps.take i) x sex born := by
  unfold parentAt parentOk
  congr 1
  cases e0 : leI 0 x with
  | false => rfl
  | true =>
    rw [leI_t] at e0
    simp only [Bool.true_and]
    by_cases hx : x < i
    · have hxl : x.toNat < ps.length := by omega
      have e1 : ltI x i = true := ltI_t.2 hx
      have e2 : (ps.take i)[x.toNat]? = some ps[x.toNat] := by rw [List.getElem?_take_of_lt (by omega)]; exact List.getElem?_eq_getElem hxl
      rw [e1, e2, List.getElem?_eq_getElem hxl]
      simp only [Bool.true_and]
      have hq := personOk_spec (personsTo_get hok (i := x.toNat) (by omega) hxl)
      generalize ps[x.toNat] = q at hq ⊢
      congr 1
      congr 1
      have hd := hq.2.2.2.2.2.1
      have hb := hq.2.2.2.1
      rcases hs with ⟨rfl, rfl⟩ | ⟨rfl, rfl⟩
      · have w1 : IntKind.i64.wrap (q.died + 1) = q.died + 1 := wrap64 (by omega) (by omega)
        have w2 : IntKind.i64.wrap (born - 1) = born - 1 := wrap64 (by omega) (by omega)
        rw [show eqI (1 : Int) 1 = true from eqI_t.2 rfl]
        simp only [livedTo, w1, w2]
        congr 1
        rw [Bool.eq_iff_iff, leI_t, leI_t]
        omega
      · have w1 : IntKind.i64.wrap (q.died + 0) = q.died + 0 := wrap64 (by omega) (by omega)
        rw [show eqI (2 : Int) 1 = false from eqI_f.2 (by decide)]
        simp only [livedTo, w1]
        congr 1
        rw [Bool.eq_iff_iff, leI_t, leI_t]
        omega
    · have e1 : ltI x i = false := ltI_f.2 (by omega)
      have e2 : (ps.take i)[x.toNat]? = none := by rw [List.getElem?_eq_none]; simp; omega
      rw [e1, e2]
      rfl

theorem findFrom_fresh {n : ByteArray} : ∀ (ps : List Per) (i : Nat), (findFrom n i ps = none) ↔ (ps.all fun q => notB (eqS q.name n)) = true
  | [], _ => by simp [findFrom]
  | p :: ps, i => by
    simp only [findFrom, List.all_cons, Bool.and_eq_true]
    cases e : eqS p.name n
    · rw [findFrom_fresh ps (i + 1)]; simp [notB]
    · simp [notB]

theorem personAt_eq {ps : List Per} {i : Nat} (hl : i < ps.length) (hok : personsTo ps i = true) : personAt ps i ps[i] = personOk (ps.take i) ps[i] := by
  generalize ps[i] = p
  unfold personAt personOk fresh
  have hf := findFrom_fresh (n := p.name) (ps.take i) 0
  cases e : findFrom p.name 0 (ps.take i) with
  | some j =>
    have : ((ps.take i).all fun q => notB (eqS q.name p.name)) = false := by
      cases h : ((ps.take i).all fun q => notB (eqS q.name p.name)) with
      | false => rfl
      | true => rw [hf.2 h] at e; cases e
    rw [this]
    simp
  | none =>
    rw [hf.1 e]
    by_cases hb : 0 ≤ p.born ∧ p.born ≤ 9999
    · rw [parentAt_eq hl hok hb.1 hb.2 (.inl ⟨rfl, rfl⟩), parentAt_eq hl hok hb.1 hb.2 (.inr ⟨rfl, rfl⟩)]
      simp only [Bool.true_and]
      generalize parentOk (ps.take i) p.father 1 p.born = A
      generalize parentOk (ps.take i) p.mother 2 p.born = B
      unfold shapeOk endYear
      have : (leI 1 p.sex && leI p.sex 2) = (eqI p.sex 1 || eqI p.sex 2) := by
        rw [Bool.eq_iff_iff]; simp only [Bool.and_eq_true, Bool.or_eq_true, leI_t, eqI_t]; omega
      rw [this]
      generalize leI 0 p.born = a
      generalize leI p.born 9999 = b
      generalize isName p.name = c
      generalize (eqI p.sex 1 || eqI p.sex 2) = d
      generalize (eqI p.died (-1) || leI p.born p.died && leI p.died 9999) = e
      cases a <;> cases b <;> cases c <;> cases d <;> cases e <;> cases A <;> cases B <;> rfl
    · have hn : (leI 0 p.born && leI p.born 9999) = false := by
        cases h : (leI 0 p.born && leI p.born 9999) with
        | false => rfl
        | true => simp only [Bool.and_eq_true, leI_t] at h; exact absurd h hb
      have e1 : shapeOk p = false := by unfold shapeOk; rw [hn]; simp
      rw [e1]
      have : (leI 0 p.born && (leI p.born 9999 && endYear p.died p.born)) = false := by
        rw [← Bool.and_assoc, hn]; rfl
      rw [this]
      simp

/-- spec.IsFamily -/
theorem isFamily_spec (ps : List Per) (us : List Uni) : FSpec env.P 114 [famLV ps us] (.bool (famOk ps us)) := by
  refine FSpec_of_code env_ok (fn := Try.f114) Try.func114 rfl Try.call114 _ _ ?_
  ((repeat ((conv => whnf); first | refine brT ?_ | refine brF ?_)); conv => whnf)
  intro hpn
  ((repeat ((conv => whnf); first | refine brT ?_ | refine brF ?_)); conv => whnf)
  (refine ⟨fun h1 => ?_, fun h1 => ?_⟩ <;> rw [h1])
  · ((repeat ((conv => whnf); first | refine brT ?_ | refine brF ?_)); conv => whnf)
    refine fin ?_
    have : decide (ps.length ≤ 40) = false := by rw [ltI_t] at h1; simp at h1; simp; omega
    simp [famOk, this]
  have hl : ps.length ≤ 40 := by rw [ltI_f] at h1; simp at h1; omega
  ((repeat ((conv => whnf); first | refine brT ?_ | refine brF ?_)); conv => whnf)
  intro hun
  ((repeat ((conv => whnf); first | refine brT ?_ | refine brF ?_)); conv => whnf)
  (refine ⟨fun h2 => ?_, fun h2 => ?_⟩ <;> rw [h2])
  · ((repeat ((conv => whnf); first | refine brT ?_ | refine brF ?_)); conv => whnf)
    refine fin ?_
    have : decide (us.length ≤ 60) = false := by rw [ltI_t] at h2; simp at h2; simp; omega
    simp [famOk, this]
  have hul : us.length ≤ 60 := by rw [ltI_f] at h2; simp at h2; omega
  have hp' : ps.length ≤ Go.maxLen := by simpa using hpn
  have hu' : us.length ≤ Go.maxLen := by simpa using hun
  have hfam : famOk ps us = (personsTo ps ps.length && (unionsTo ps us us.length && shallow (depths ps))) := by simp [famOk, hl, hul]
  ((repeat ((conv => whnf); first | refine brT ?_ | refine brF ?_)); conv => whnf)
  intro _
  ((repeat ((conv => whnf); first | refine brT ?_ | refine brF ?_)); conv => whnf)
  refine loop_rule (α := Nat) (fun k => [(20, .int .i64 (k : Int))]) (fun k => [.box (famLV ps us)]) (fun k => ps.length - k) (fun k => k ≤ ps.length ∧ personsTo ps k = true) 0 ⟨Nat.zero_le _, rfl⟩ ?_ ?_
  · refine ⟨?_, ⟨rfl, trivial⟩, rfl, rfl⟩
    ((repeat ((conv => whnf); refine ⟨rfl, ?_⟩)); trivial)
  rintro k ⟨hk, hok⟩
  ((repeat ((conv => whnf); first | refine brT ?_ | refine brF ?_)); conv => whnf)
  (refine ⟨fun g1 => ?_, fun g1 => ?_⟩ <;> rw [g1])
  · have hlt : k < ps.length := by rw [ltI_t] at g1; simp at g1; omega
    have e := step_i hlt hp'
    have hpe := personAt_eq hlt hok
    ((repeat ((conv => whnf); first | refine brT ?_ | refine brF ?_)); conv => whnf)
    refine ⟨_, l1Person_spec ps us k hlt hl, ?_⟩
    rw [hpe]
    ((repeat ((conv => whnf); first | refine brT ?_ | refine brF ?_)); conv => whnf)
    (refine ⟨fun g2 => ?_, fun g2 => ?_⟩ <;> rw [g2])
    · rw [notB_t] at g2
      ((repeat ((conv => whnf); first | refine brT ?_ | refine brF ?_)); conv => whnf)
      refine fin ?_
      rw [hfam, personsTo_no hlt hlt g2]
      rfl
    · rw [notB_f] at g2
      ((repeat ((conv => whnf); first | refine brT ?_ | refine brF ?_)); conv => whnf)
      refine round_end (k + 1) ⟨hlt, by rw [personsTo_succ hlt, hok, g2]; rfl⟩ (by omega) ⟨?_, ⟨rfl, trivial⟩, rfl, rfl⟩
      ((repeat ((conv => whnf); first | refine ⟨e, ?_⟩ | refine ⟨rfl, ?_⟩)); trivial)
  have hkl : k = ps.length := by rw [ltI_f] at g1; simp at g1; omega
  subst hkl
  have hpars := parsIn_of hok
  ((repeat ((conv => whnf); first | refine brT ?_ | refine brF ?_)); conv => whnf)
  refine ⟨_, l1Depths_spec ps us hl hpars, ?_⟩
  ((repeat ((conv => whnf); first | refine brT ?_ | refine brF ?_)); conv => whnf)
  intro hdn
  have hd' : (depths ps).length ≤ Go.maxLen := by simpa using hdn
  ((repeat ((conv => whnf); first | refine brT ?_ | refine brF ?_)); conv => whnf)
  refine loop_rule (α := Nat) (fun k => [(31, .int .i64 (k : Int))]) (fun k => [.box (famLV ps us)]) (fun k => (depths ps).length - k) (fun k => k ≤ (depths ps).length ∧ shallow ((depths ps).take k) = true) 0 ⟨Nat.zero_le _, rfl⟩ ?_ ?_
  · refine ⟨?_, ⟨rfl, trivial⟩, rfl, rfl⟩
    ((repeat ((conv => whnf); refine ⟨rfl, ?_⟩)); trivial)
  rintro i ⟨hi, hsh⟩
  ((repeat ((conv => whnf); first | refine brT ?_ | refine brF ?_)); conv => whnf)
  (refine ⟨fun d1 => ?_, fun d1 => ?_⟩ <;> rw [d1])
  · have hlt : i < (depths ps).length := by rw [ltI_t] at d1; simp at d1; omega
    have e := step_i hlt hd'
    ((repeat ((conv => whnf); first | refine brT ?_ | refine brF ?_)); conv => whnf)
    refine ⟨i, .int .i64 (depths ps)[i], rfl, by simp [hlt, intLV], rfl, ?_⟩
    ((repeat ((conv => whnf); first | refine brT ?_ | refine brF ?_)); conv => whnf)
    (refine ⟨fun d2 => ?_, fun d2 => ?_⟩ <;> rw [d2])
    · ((repeat ((conv => whnf); first | refine brT ?_ | refine brF ?_)); conv => whnf)
      refine fin ?_
      rw [hfam, shallow_no hlt d2]
      simp
    · ((repeat ((conv => whnf); first | refine brT ?_ | refine brF ?_)); conv => whnf)
      refine round_end (i + 1) ⟨hlt, by rw [shallow_succ hlt, hsh, shallow_le d2]; rfl⟩ (by omega) ⟨?_, ⟨rfl, trivial⟩, rfl, rfl⟩
      ((repeat ((conv => whnf); first | refine ⟨e, ?_⟩ | refine ⟨rfl, ?_⟩)); trivial)
  have hil : i = (depths ps).length := by rw [ltI_f] at d1; simp at d1; omega
  subst hil
  rw [List.take_length] at hsh
  ((repeat ((conv => whnf); first | refine brT ?_ | refine brF ?_)); conv => whnf)
  intro _
  ((repeat ((conv => whnf); first | refine brT ?_ | refine brF ?_)); conv => whnf)
  refine loop_rule (α := Nat) (fun k => [(41, .int .i64 (k : Int))]) (fun k => [.box (famLV ps us)]) (fun k => us.length - k) (fun k => k ≤ us.length ∧ unionsTo ps us k = true) 0 ⟨Nat.zero_le _, rfl⟩ ?_ ?_
  · refine ⟨?_, ⟨rfl, trivial⟩, rfl, rfl⟩
    ((repeat ((conv => whnf); refine ⟨rfl, ?_⟩)); trivial)
  rintro j ⟨hj, huok⟩
  ((repeat ((conv => whnf); first | refine brT ?_ | refine brF ?_)); conv => whnf)
  (refine ⟨fun j1 => ?_, fun j1 => ?_⟩ <;> rw [j1])
  · have hlt : j < us.length := by rw [ltI_t] at j1; simp at j1; omega
    have e := step_i hlt hu'
    ((repeat ((conv => whnf); first | refine brT ?_ | refine brF ?_)); conv => whnf)
    refine ⟨_, l1Union_spec ps us j hlt hl hul, ?_⟩
    ((repeat ((conv => whnf); first | refine brT ?_ | refine brF ?_)); conv => whnf)
    (refine ⟨fun j2 => ?_, fun j2 => ?_⟩ <;> rw [j2])
    · rw [notB_t] at j2
      ((repeat ((conv => whnf); first | refine brT ?_ | refine brF ?_)); conv => whnf)
      refine fin ?_
      rw [hfam, unionsTo_no hlt hlt j2]
      simp
    · rw [notB_f] at j2
      ((repeat ((conv => whnf); first | refine brT ?_ | refine brF ?_)); conv => whnf)
      refine round_end (j + 1) ⟨hlt, by rw [unionsTo_succ hlt, huok, j2]; rfl⟩ (by omega) ⟨?_, ⟨rfl, trivial⟩, rfl, rfl⟩
      ((repeat ((conv => whnf); first | refine ⟨e, ?_⟩ | refine ⟨rfl, ?_⟩)); trivial)
  have hjl : j = us.length := by rw [ltI_f] at j1; simp at j1; omega
  subst hjl
  ((repeat ((conv => whnf); first | refine brT ?_ | refine brF ?_)); conv => whnf)
  refine fin ?_
  rw [hfam, hok, huok, hsh]
  rfl
end Go.Proofs.Ytdhmnojnkgmmnaa

namespace Go.Proofs.Ytdhmnojnkgmmnaa
open Go.Lg
set_option maxHeartbeats 800000
set_option maxRecDepth 10000
set_option linter.unusedVariables false
set_option linter.unusedSimpArgs false

/-- The family is valid and has the person. -/
def hasP (ps : List Per) (us : List Uni) (p : Int) : Bool := leI 0 p && (ltI p (ps.length : Int) && famOk ps us)
theorem l1Has_spec (ps : List Per) (us : List Uni) (p : Int) : FSpec env.P 105 [famLV ps us, .int .i64 p] (.bool (hasP ps us p)) := by
  refine FSpec_of_code env_ok (fn := Try.f105) Try.func105 rfl Try.call105 _ _ ?_
  ((repeat ((conv => whnf); first | refine brT ?_ | refine brF ?_)); conv => whnf)
  (refine ⟨fun h1 => ?_, fun h1 => ?_⟩ <;> rw [h1])
  · ((repeat ((conv => whnf); first | refine brT ?_ | refine brF ?_)); conv => whnf)
    intro hn
    ((repeat' (((repeat ((conv => whnf); first | refine brT ?_ | refine brF ?_)); conv => whnf); first | (refine And.intro ?_ ?_ <;> (intro h; rw [h]; revert h; intro _)) | (refine Exists.intro true (And.intro (a := drawB _ _ = true) (by kernel_rfl) ?_)) | (refine Exists.intro _ (And.intro (isFamily_spec ps us) ?_)))); all_goals ((repeat ((conv => whnf); first | refine brT ?_ | refine brF ?_)); conv => whnf))
    all_goals (refine fin ?_; simp_all [hasP])
  · ((repeat ((conv => whnf); first | refine brT ?_ | refine brF ?_)); conv => whnf)
    refine fin ?_; simp [hasP, h1]
theorem hasPerson_spec (ps : List Per) (us : List Uni) (p : Int) : FSpec env.P 110 [famLV ps us, .int .i64 p] (.bool (hasP ps us p)) := by
  refine FSpec_of_code env_ok (fn := Try.f110) Try.func110 rfl Try.call110 _ _ ?_
  ((repeat ((conv => whnf); first | refine brT ?_ | refine brF ?_)); conv => whnf)
  (refine ⟨fun h1 => ?_, fun h1 => ?_⟩ <;> rw [h1])
  · ((repeat ((conv => whnf); first | refine brT ?_ | refine brF ?_)); conv => whnf)
    intro hn
    ((repeat' (((repeat ((conv => whnf); first | refine brT ?_ | refine brF ?_)); conv => whnf); first | (refine And.intro ?_ ?_ <;> (intro h; rw [h]; revert h; intro _)) | (refine Exists.intro true (And.intro (a := drawB _ _ = true) (by kernel_rfl) ?_)) | (refine Exists.intro _ (And.intro (isFamily_impl ps us) ?_)))); all_goals ((repeat ((conv => whnf); first | refine brT ?_ | refine brF ?_)); conv => whnf))
    all_goals (refine fin ?_; simp_all [hasP])
  · ((repeat ((conv => whnf); first | refine brT ?_ | refine brF ?_)); conv => whnf)
    refine fin ?_; simp [hasP, h1]
theorem hasP_lt {ps : List Per} {us : List Uni} {p : Int} (h : hasP ps us p = true) : 0 ≤ p ∧ p.toNat < ps.length ∧ famOk ps us = true := by
  unfold hasP at h
  simp only [Bool.and_eq_true, leI_t, ltI_t] at h
  exact ⟨h.1, by omega, h.2.2⟩
theorem famOk_parts {ps : List Per} {us : List Uni} (h : famOk ps us = true) : ps.length ≤ 40 ∧ us.length ≤ 60 ∧ personsTo ps ps.length = true ∧ unionsTo ps us us.length = true ∧ shallow (depths ps) = true := by
  unfold famOk at h
  simpa only [Bool.and_eq_true, decide_eq_true_eq] using h

/-- FindPerson -/
def findO (ps : List Per) (us : List Uni) (n : ByteArray) : Option Nat := match famOk ps us with | true => findFrom n 0 ps | false => none
/-- IsElder -/
def elder (ps : List Per) (a b : Int) : Bool := match ps[a.toNat]?, ps[b.toNat]? with
  | some x, some y => ltI x.born y.born || (eqI x.born y.born && ltI a b)
  | _, _ => false
theorem l1Elder_spec (ps : List Per) (us : List Uni) (a b : Int) (a0 : 0 ≤ a) (al : a.toNat < ps.length) (b0 : 0 ≤ b) (bl : b.toNat < ps.length) :
    FSpec env.P 234 [famLV ps us, .int .i64 a, .int .i64 b] (.bool (elder ps a b)) := by
  refine FSpec_of_code env_ok (fn := Try.f234) Try.func234 rfl Try.call234 _ _ ?_
  have he : elder ps a b = (ltI ps[a.toNat].born ps[b.toNat].born || (eqI ps[a.toNat].born ps[b.toNat].born && ltI a b)) := by simp [elder, al, bl]
  ((repeat ((conv => whnf); first | refine brT ?_ | refine brF ?_)); conv => whnf)
  refine ⟨a.toNat, ps[a.toNat].lv, by omega, by simp [al], rfl, ?_⟩
  ((repeat ((conv => whnf); first | refine brT ?_ | refine brF ?_)); conv => whnf)
  refine ⟨b.toNat, ps[b.toNat].lv, by omega, by simp [bl], rfl, ?_⟩
  ((repeat' (((repeat ((conv => whnf); first | refine brT ?_ | refine brF ?_)); conv => whnf); (refine And.intro ?_ ?_ <;> (intro h; rw [h]; revert h; intro _)))); all_goals ((repeat ((conv => whnf); first | refine brT ?_ | refine brF ?_)); conv => whnf))
  all_goals (refine fin ?_; simp [*])
def cmpI (a b : Int) : Int := match ltI a b with | true => -1 | false => match ltI b a with | true => 1 | false => 0
theorem isNaN_spec (a : Int) : FSpec env.P 292 [.int .i64 a] (.bool false) := by
  refine FSpec_of_code env_ok (fn := Try.f292) Try.func292 rfl Try.call292 _ _ ?_
  ((repeat ((conv => whnf); first | refine brT ?_ | refine brF ?_)); conv => whnf)
  exact fin (by simp [notB, eqI_refl])
theorem compare_spec (a b : Int) : FSpec env.P 245 [.int .i64 a, .int .i64 b] (.int .i64 (cmpI a b)) := by
  refine FSpec_of_code env_ok (fn := Try.f245) Try.func245 rfl Try.call245 _ _ ?_
  ((repeat' (((repeat ((conv => whnf); first | refine brT ?_ | refine brF ?_)); conv => whnf); first | (refine And.intro ?_ ?_ <;> (intro h; rw [h]; revert h; intro _)) | (refine Exists.intro true (And.intro (a := drawB _ _ = true) (by kernel_rfl) ?_)) | (refine Exists.intro _ (And.intro (isNaN_spec _) ?_)))); all_goals ((repeat ((conv => whnf); first | refine brT ?_ | refine brF ?_)); conv => whnf))
  all_goals
    refine ⟨rfl, ?_, List.nodup_nil⟩
    simp [cmpI, *]
def orI (a b : Int) : Int := match eqI a 0 with | true => b | false => a
theorem or_spec (a b : Int) : FSpec env.P 220 [.sl [.int .i64 a, .int .i64 b]] (.int .i64 (orI a b)) := by
  refine FSpec_of_code env_ok (fn := Try.f220) Try.func220 rfl Try.call220 _ _ ?_
  ((repeat ((conv => whnf); first | refine brT ?_ | refine brF ?_)); conv => whnf)
  intro _
  ((repeat ((conv => whnf); first | refine brT ?_ | refine brF ?_)); conv => whnf)
  refine loop_rule (α := Nat) (fun k => [(8, .int .i64 (k : Int))]) (fun k => []) (fun k => 2 - k) (fun k => k ≤ 2 ∧ (1 ≤ k → a = 0) ∧ (2 ≤ k → b = 0)) 0 ⟨by omega, by omega, by omega⟩ ?_ ?_
  · refine ⟨?_, trivial, rfl, rfl⟩
    ((repeat ((conv => whnf); refine ⟨rfl, ?_⟩)); trivial)
  rintro k ⟨hk, ha, hb⟩
  ((repeat ((conv => whnf); first | refine brT ?_ | refine brF ?_)); conv => whnf)
  (refine ⟨fun h1 => ?_, fun h1 => ?_⟩ <;> rw [h1])
  · have hlt : k < 2 := by rw [ltI_t] at h1; simp at h1; omega
    have e : LV.int .i64 (IntKind.i64.wrap ((k : Int) + 1)) = LV.int .i64 ((k + 1 : Nat) : Int) := step_i hlt (by decide)
    ((repeat ((conv => whnf); first | refine brT ?_ | refine brF ?_)); conv => whnf)
    refine ⟨k, .int .i64 ([a, b][k]'hlt), rfl, ?_, rfl, ?_⟩
    · match k, hlt with
      | 0, _ => rfl
      | 1, _ => rfl
    ((repeat ((conv => whnf); first | refine brT ?_ | refine brF ?_)); conv => whnf)
    (refine ⟨fun h2 => ?_, fun h2 => ?_⟩ <;> rw [h2])
    · ((repeat ((conv => whnf); first | refine brT ?_ | refine brF ?_)); conv => whnf)
      refine ⟨rfl, ?_, List.nodup_nil⟩
      rw [notB_t] at h2
      match k, hlt, h2 with
      | 0, _, h2 => simp at h2; simp [orI, h2]
      | 1, _, h2 => have := ha (by omega); subst this; simp [orI, eqI_refl]
    · rw [notB_f, eqI_t] at h2
      ((repeat ((conv => whnf); first | refine brT ?_ | refine brF ?_)); conv => whnf)
      refine round_end (k + 1) ⟨hlt, fun _ => ?_, fun h => ?_⟩ (by omega) ⟨?_, trivial, rfl, rfl⟩
      · match k, hlt, h2 with
        | 0, _, h2 => simpa using h2
        | 1, _, h2 => exact ha (by omega)
      · match k, hlt, h2, h with
        | 1, _, h2, _ => simpa using h2
      · ((repeat ((conv => whnf); first | refine ⟨e, ?_⟩ | refine ⟨rfl, ?_⟩)); trivial)
  · have h3 : k = 2 := by rw [ltI_f] at h1; simp at h1; omega
    subst h3
    have := ha (by omega)
    have := hb (by omega)
    subst a; subst b
    ((repeat ((conv => whnf); first | refine brT ?_ | refine brF ?_)); conv => whnf)
    exact ⟨rfl, by simp [orI, eqI_refl], List.nodup_nil⟩
def ageI (ps : List Per) (a b : Int) : Int := match ps[a.toNat]?, ps[b.toNat]? with
  | some x, some y => orI (cmpI x.born y.born) (cmpI a b)
  | _, _ => 0
theorem compareAge_spec (ps : List Per) (us : List Uni) (a b : Int) (a0 : 0 ≤ a) (al : a.toNat < ps.length) (b0 : 0 ≤ b) (bl : b.toNat < ps.length) :
    FSpec env.P 194 [famLV ps us, .int .i64 a, .int .i64 b] (.int .i64 (ageI ps a b)) := by
  refine FSpec_of_code env_ok (fn := Try.f194) Try.func194 rfl Try.call194 _ _ ?_
  have he : ageI ps a b = orI (cmpI ps[a.toNat].born ps[b.toNat].born) (cmpI a b) := by simp [ageI, al, bl]
  ((repeat ((conv => whnf); first | refine brT ?_ | refine brF ?_)); conv => whnf)
  refine ⟨true, by kernel_rfl, ?_⟩
  ((repeat ((conv => whnf); first | refine brT ?_ | refine brF ?_)); conv => whnf)
  refine ⟨a.toNat, ps[a.toNat].lv, by omega, by simp [al], rfl, ?_⟩
  ((repeat ((conv => whnf); first | refine brT ?_ | refine brF ?_)); conv => whnf)
  refine ⟨b.toNat, ps[b.toNat].lv, by omega, by simp [bl], rfl, ?_⟩
  ((repeat ((conv => whnf); first | refine brT ?_ | refine brF ?_)); conv => whnf)
  refine ⟨_, compare_spec _ _, ?_⟩
  ((repeat ((conv => whnf); first | refine brT ?_ | refine brF ?_)); conv => whnf)
  refine ⟨_, compare_spec _ _, ?_⟩
  ((repeat ((conv => whnf); first | refine brT ?_ | refine brF ?_)); conv => whnf)
  refine ⟨rfl, ?_⟩
  ((repeat ((conv => whnf); first | refine brT ?_ | refine brF ?_)); conv => whnf)
  refine ⟨_, or_spec _ _, ?_⟩
  ((repeat ((conv => whnf); first | refine brT ?_ | refine brF ?_)); conv => whnf)
  exact ⟨rfl, he.symm, List.nodup_nil⟩
theorem age_elder (ps : List Per) (a b : Int) : ltI (ageI ps a b) 0 = elder ps a b := by
  unfold ageI elder
  split
  · rename_i x y _ _
    rw [Bool.eq_iff_iff]
    simp only [ltI_t, Bool.or_eq_true, Bool.and_eq_true, eqI_t]
    unfold orI cmpI
    grind [ltI_t, ltI_f, eqI_t, eqI_f]
  · rw [ltI_f]; omega
def isElder (ps : List Per) (us : List Uni) (a b : Int) : Bool := (hasP ps us a && hasP ps us b) && elder ps a b
/-- IsAlive -/
def aliveIn (p : Per) (y : Int) : Bool := leI p.born y && (eqI p.died (-1) || ltI y p.died)
def alive (ps : List Per) (us : List Uni) (p y : Int) : Bool := hasP ps us p && match ps[p.toNat]? with | some x => aliveIn x y | none => false
/-- DepthOf -/
def depthOf (ps : List Per) (us : List Uni) (p : Int) : Int := match hasP ps us p with | true => (depths ps).getD p.toNat 0 | false => 0
theorem depths_len (ps : List Per) : (depths ps).length = ps.length := depTo_len ps _
end Go.Proofs.Ytdhmnojnkgmmnaa
namespace Go.Proofs.Ytdhmnojnkgmmnaa
open Go.Lg
set_option maxHeartbeats 1600000
set_option maxRecDepth 10000
set_option linter.unusedVariables false
set_option linter.unusedSimpArgs false

theorem finI {p : Prop} (h : p) : IntKind.i64 = IntKind.i64 ∧ p ∧ (fun ids : List Nat => ids.Nodup) [] := ⟨rfl, h, List.nodup_nil⟩

/-! A rule: its name, its sex and place, the steps that it replaces and by which. -/
structure Rul where
  name : ByteArray
  sex : Int
  place : Int
  fr : List Pr
  to : List Pr
def Rul.lv (r : Rul) : LV := .st [.str r.name, .int .i64 r.sex, .int .i64 r.place, .sl (r.fr.map Pr.lv), .sl (r.to.map Pr.lv)]
def Rul.own (r : Rul) (e : Nat) : LV := .st [.str r.name, .int .i64 r.sex, .int .i64 r.place, .own e 2 (r.fr.map Pr.lv), .own e 2 (r.to.map Pr.lv)]
/-- Its parts are of a length that memory allows. -/
def Rul.OK (r : Rul) : Prop := r.name.size ≤ Go.maxLen ∧ r.fr.length ≤ Go.maxLen ∧ r.to.length ≤ Go.maxLen
def szR (l : Int) (r : Rul) : Int := match ltI (IntKind.i64.wrap (l - (r.name.size : Int))) 0 with
  | true => -1
  | false => match ltI (szN (IntKind.i64.wrap (l - (r.name.size : Int))) r.fr.length) 0 with
    | true => -1
    | false => szT (szN (IntKind.i64.wrap (l - (r.name.size : Int))) r.fr.length) r.to.length
theorem szR_ok {l : Int} {r : Rul} (hr : r.OK) (h0 : 0 ≤ l) (h1 : l ≤ 1048576) (h : 0 ≤ szR l r) :
    szR l r = l - r.name.size - r.fr.length - r.to.length ∧ ltI (szR l r) 0 = false ∧ 16 * r.fr.length ≤ 281474976710656 ∧ 16 * r.to.length ≤ 281474976710656 ∧ r.fr.length ≤ 1048576 ∧ r.to.length ≤ 1048576 ∧ (r.name.size : Int) ≤ l := by
  obtain ⟨hn, hf, ht⟩ := hr
  unfold Go.maxLen at hn hf ht
  have hw : IntKind.i64.wrap (l - (r.name.size : Int)) = l - r.name.size := wrap64 (by omega) (by omega)
  unfold szR at h ⊢
  rw [hw] at h ⊢
  split at h
  · omega
  rename_i e1
  rw [ltI_f] at e1
  split at h
  · omega
  rename_i e2
  rw [ltI_f] at e2
  have hw2 : szN (l - r.name.size) r.fr.length = l - r.name.size - r.fr.length := by
    unfold szN at e2 ⊢
    have hw3 : IntKind.i64.wrap (l - (r.name.size : Int) - (r.fr.length : Int)) = l - r.name.size - r.fr.length := wrap64 (by omega) (by omega)
    rw [hw3] at e2 ⊢
    cases hh : ltI (l - (r.name.size : Int) - (r.fr.length : Int)) 0 <;> rw [hh] at e2
    simp only at e2
    omega
  try simp only [show ltI (l - (r.name.size : Int)) 0 = false by rw [ltI_f]; omega]
  rw [hw2] at h e2 ⊢
  try simp only [show ltI (l - (r.name.size : Int) - (r.fr.length : Int)) 0 = false by rw [ltI_f]; omega]
  obtain ⟨k1, k2, k3, k4, -⟩ := szT_ok (l := l - r.name.size - r.fr.length) (n := r.to.length) (by omega) (by omega) (by unfold Go.maxLen; omega) h
  exact ⟨by omega, k3, by omega, k4, by omega, by omega, by omega⟩

def Rul.eq (r s : Rul) : Bool := eqS r.name s.name && (eqI r.sex s.sex && (eqI r.place s.place && (eqList Pr.eq r.fr s.fr && eqList Pr.eq r.to s.to)))
theorem Rul.eq_refl (r : Rul) : r.eq r = true := by simp [Rul.eq, eqS_refl, eqI_refl, eqPairS_refl]

/-! Comparisons of steps. -/
def orL : List Int → Int
  | [] => 0
  | x :: xs => match eqI x 0 with | true => orL xs | false => x
theorem orL_drop {xs : List Int} : ∀ {k : Nat}, (∀ j x, j < k → xs[j]? = some x → eqI x 0 = true) → orL (xs.drop k) = orL xs := by
  induction xs with
  | nil => intro k _; simp
  | cons x xs ih =>
    intro k h
    cases k with
    | zero => rfl
    | succ k =>
      have h0 := h 0 x (by omega) rfl
      simp only [List.drop_succ_cons, orL, h0]
      exact ih fun j y hj hy => h (j + 1) y (by omega) (by simpa using hy)
theorem cmpOr_spec (xs : List Int) : FSpec env.P 220 [.sl (xs.map fun x => .int .i64 x)] (.int .i64 (orL xs)) := by
  refine FSpec_of_code env_ok (fn := Try.f220) Try.func220 rfl Try.call220 _ _ ?_
  ((repeat ((conv => whnf); first | refine brT ?_ | refine brF ?_)); conv => whnf)
  intro hm
  rw [List.length_map] at hm ⊢
  ((repeat ((conv => whnf); first | refine brT ?_ | refine brF ?_)); conv => whnf)
  refine loop_rule (α := Nat) (fun k => [(8, .int .i64 (k : Int))]) (fun _ => []) (fun k => xs.length - k) (fun k => k ≤ xs.length ∧ ∀ j x, j < k → xs[j]? = some x → eqI x 0 = true) 0 ⟨Nat.zero_le _, fun _ _ h => absurd h (Nat.not_lt_zero _)⟩ ?_ ?_
  · refine ⟨?_, trivial, rfl, rfl⟩
    ((repeat ((conv => whnf); refine ⟨rfl, ?_⟩)); trivial)
  rintro k ⟨hk, hz⟩
  ((repeat ((conv => whnf); first | refine brT ?_ | refine brF ?_)); conv => whnf)
  (refine ⟨fun h1 => ?_, fun h1 => ?_⟩ <;> rw [h1])
  · have hlt : k < xs.length := by rw [ltI_t] at h1; omega
    ((repeat ((conv => whnf); first | refine brT ?_ | refine brF ?_)); conv => whnf)
    refine ⟨k, .int .i64 xs[k], rfl, by simp [hlt], rfl, ?_⟩
    ((repeat ((conv => whnf); first | refine brT ?_ | refine brF ?_)); conv => whnf)
    (refine ⟨fun h2 => ?_, fun h2 => ?_⟩ <;> rw [h2])
    · ((repeat ((conv => whnf); first | refine brT ?_ | refine brF ?_)); conv => whnf)
      refine finI ?_
      rw [notB_t] at h2
      rw [← orL_drop (k := k) hz, List.drop_eq_getElem_cons hlt]
      simp only [orL, h2]
    · rw [notB_f] at h2
      ((repeat ((conv => whnf); first | refine brT ?_ | refine brF ?_)); conv => whnf)
      refine round_end (k + 1) ⟨hlt, fun j x hj hx => ?_⟩ (by omega) ⟨?_, trivial, rfl, rfl⟩
      · by_cases e : j = k
        · subst e; rw [List.getElem?_eq_getElem hlt] at hx; cases hx; exact h2
        · exact hz j x (by omega) hx
      have e := step_i hlt hm
      ((repeat ((conv => whnf); first | refine ⟨e, ?_⟩ | refine ⟨rfl, ?_⟩)); trivial)
  · have h4 : k = xs.length := by rw [ltI_f] at h1; omega
    subst h4
    ((repeat ((conv => whnf); first | refine brT ?_ | refine brF ?_)); conv => whnf)
    refine finI ?_
    rw [← orL_drop (k := xs.length) hz]
    simp [orL]
def cmpS (p q : Pr) : Int := orL [cmpI p.a q.a, cmpI p.b q.b]
def cmpFL : List Pr → List Pr → Int
  | [], [] => 0
  | [], _ :: _ => -1
  | _ :: _, [] => 1
  | p :: ps, q :: qs => match eqI (cmpS p q) 0 with | true => cmpFL ps qs | false => cmpS p q
def befL : List Pr → List Pr → Bool
  | p :: ps, q :: qs => match eqI p.a q.a with
    | true => (match eqI p.b q.b with | true => befL ps qs | false => ltI p.b q.b)
    | false => ltI p.a q.a
  | _, _ => false
theorem cmpFL_drop {ps qs : List Pr} : ∀ {k : Nat}, (∀ j p q, j < k → ps[j]? = some p → qs[j]? = some q → eqI (cmpS p q) 0 = true) → k ≤ ps.length → k ≤ qs.length → cmpFL (ps.drop k) (qs.drop k) = cmpFL ps qs := by
  induction ps generalizing qs with
  | nil => intro k _ h1 h2; have : k = 0 := by simpa using h1
           subst this; rfl
  | cons p ps ih =>
    intro k h h1 h2
    cases k with
    | zero => rfl
    | succ k =>
      cases qs with
      | nil => simp at h2
      | cons q qs =>
        have h0 := h 0 p q (by omega) rfl rfl
        simp only [List.drop_succ_cons, cmpFL, h0]
        exact ih (fun j x y hj hx hy => h (j + 1) x y (by omega) (by simpa using hx) (by simpa using hy)) (by simpa using h1) (by simpa using h2)
def cmpPt (a b : List Pr) : Int := orL [cmpI a.length b.length, cmpFL a b]
theorem befL_drop {ps qs : List Pr} : ∀ {k : Nat}, (∀ j p q, j < k → ps[j]? = some p → qs[j]? = some q → eqI p.a q.a = true ∧ eqI p.b q.b = true) → k ≤ ps.length → k ≤ qs.length → befL (ps.drop k) (qs.drop k) = befL ps qs := by
  induction ps generalizing qs with
  | nil => intro k _ h1 h2; have : k = 0 := by simpa using h1
           subst this; rfl
  | cons p ps ih =>
    intro k h h1 h2
    cases k with
    | zero => rfl
    | succ k =>
      cases qs with
      | nil => simp at h2
      | cons q qs =>
        obtain ⟨h0, h0'⟩ := h 0 p q (by omega) rfl rfl
        simp only [List.drop_succ_cons, befL, h0, h0']
        exact ih (fun j x y hj hx hy => h (j + 1) x y (by omega) (by simpa using hx) (by simpa using hy)) (by simpa using h1) (by simpa using h2)
def befP (a b : List Pr) : Bool := match eqI (a.length : Int) b.length with | true => befL a b | false => ltI (a.length : Int) b.length
theorem cmpI_neg (a b : Int) : ltI (cmpI a b) 0 = ltI a b := by
  unfold cmpI
  cases h : ltI a b <;> simp only
  · cases h2 : ltI b a <;> simp only <;> rw [ltI_f] <;> omega
  · rw [ltI_t]; omega
theorem cmpI_zero (a b : Int) : eqI (cmpI a b) 0 = eqI a b := by
  unfold cmpI
  cases h : ltI a b <;> simp only
  · rw [ltI_f] at h
    cases h2 : ltI b a <;> simp only
    · rw [ltI_f] at h2; rw [eqI_refl, eq_comm, eqI_t]; omega
    · rw [ltI_t] at h2
      rw [show eqI 1 0 = false by rw [eqI_f]; omega, eq_comm, eqI_f]; omega
  · rw [ltI_t] at h
    rw [show eqI (-1) 0 = false by rw [eqI_f]; omega, eq_comm, eqI_f]; omega
theorem cmpS_zero (p q : Pr) : eqI (cmpS p q) 0 = (eqI p.a q.a && eqI p.b q.b) := by
  unfold cmpS
  simp only [orL, cmpI_zero]
  cases h1 : eqI p.a q.a <;> simp only [Bool.false_and, Bool.true_and]
  · rw [cmpI_zero, h1]
  · cases h2 : eqI p.b q.b <;> simp only [eqI_refl]
    rw [cmpI_zero, h2]
theorem cmpS_neg (p q : Pr) : ltI (cmpS p q) 0 = (match eqI p.a q.a with | true => ltI p.b q.b | false => ltI p.a q.a) := by
  unfold cmpS
  simp only [orL, cmpI_zero]
  cases h1 : eqI p.a q.a <;> simp only
  · rw [cmpI_neg]
  · cases h2 : eqI p.b q.b <;> simp only
    · rw [cmpI_neg]
    · rw [eqI_t] at h2
      rw [show ltI 0 0 = false by rw [ltI_f]; omega, eq_comm, ltI_f]; omega
theorem cmpFL_neg : ∀ (a b : List Pr), a.length = b.length → ltI (cmpFL a b) 0 = befL a b
  | [], [], _ => by simp only [cmpFL, befL]; rw [ltI_f]; omega
  | [], _ :: _, h => by simp at h
  | _ :: _, [], h => by simp at h
  | p :: ps, q :: qs, h => by
    simp only [cmpFL, befL, cmpS_zero]
    have ih := cmpFL_neg ps qs (by simpa using h)
    cases h1 : eqI p.a q.a <;> simp only [Bool.false_and, Bool.true_and]
    · rw [cmpS_neg, h1]
    · cases h2 : eqI p.b q.b <;> simp only
      · rw [cmpS_neg, h1]
      · exact ih
theorem cmpPt_neg (a b : List Pr) : ltI (cmpPt a b) 0 = befP a b := by
  unfold cmpPt befP
  simp only [orL, cmpI_zero]
  cases h : eqI (a.length : Int) b.length <;> simp only
  · rw [cmpI_neg]
  · have hl : a.length = b.length := by rw [eqI_t] at h; omega
    rw [← cmpFL_neg a b hl]
    cases h2 : eqI (cmpFL a b) 0 <;> simp only
    rw [eqI_t] at h2
    rw [h2]
end Go.Proofs.Ytdhmnojnkgmmnaa

namespace Go.Proofs.Ytdhmnojnkgmmnaa
open Go.Lg
set_option maxHeartbeats 1600000
set_option maxRecDepth 10000
set_option linter.unusedVariables false
set_option linter.unusedSimpArgs false

theorem Weak.idn {n0 : Nat} {ts : List LV} {H : List Blk} (h1 : wk ts ts) (h2 : wkH n0 H H) (h3 : (scs (below H.length) ts && H.all (scB (below H.length))) = true) : Weak n0 ts H ts H := by
  simp only [Bool.and_eq_true] at h3
  exact .inl ⟨h1, h2, h3.1, h3.2⟩

/-- With this sex, the rule's parts go together. -/
def okS (fr to : List Pr) (s : Int) : Bool := !typB s fr || (typB s to && eqI (lastT s fr) (lastT s to))
theorem okS_1 {fr to : List Pr} {s : Int} (h : typB s fr = false) : okS fr to s = true := by unfold okS; rw [h]; rfl
theorem okS_2 {fr to : List Pr} {s : Int} (h : typB s fr = true) (h1 : typB s to = false) : okS fr to s = false := by unfold okS; rw [h, h1]; rfl
theorem okS_3 {fr to : List Pr} {s : Int} {b : Bool} (h : typB s fr = true) (h1 : typB s to = true) (h2 : eqI (sexR s fr) (sexR s to) = b) : okS fr to s = b := by
  unfold okS; unfold sexR at h2; rw [h, h1] at *; simpa using h2
def sexL (x : Int) : List Int := match eqI x 0 with | true => [1, 2] | false => [x]
def keepB (x : Int) (fr to : List Pr) : Bool := (sexL x).all (okS fr to) && (sexL x).any fun s => typB s fr

theorem all_take_succ {f : Int → Bool} {L : List Int} {k : Nat} (hk : k < L.length) (h : (L.take k).all f = true) (h1 : f L[k] = true) : (L.take (k + 1)).all f = true := by
  rw [List.take_succ_eq_append_getElem hk, List.all_append, h]; simp [h1]
theorem any_take_succ {f : Int → Bool} {L : List Int} {k : Nat} (hk : k < L.length) : (L.take (k + 1)).any f = ((L.take k).any f || f L[k]) := by
  rw [List.take_succ_eq_append_getElem hk, List.any_append]; simp
theorem all_no {f : Int → Bool} {L : List Int} {k : Nat} (hk : k < L.length) (h1 : f L[k] = false) : L.all f = false := by
  rw [List.all_eq_false]
  exact ⟨L[k], List.getElem_mem hk, by simp [h1]⟩
end Go.Proofs.Ytdhmnojnkgmmnaa
namespace Go.Proofs.Ytdhmnojnkgmmnaa
open Go.Lg Go.Pm
set_option maxHeartbeats 6400000
set_option maxRecDepth 10000
set_option linter.unusedVariables false
set_option linter.unusedSimpArgs false

/-! ### Types as permutations -/
def unitTo (n k : Nat) : List LV := ((unit n).take k).map intLV ++ List.replicate (n - k) (intLV 0)
theorem identity_h (n : Nat) (hb : n ≤ 1048576) : HSpec env.P 176 [.int .i64 (n : Int)] [] (.hs 0 ((unit n).map intLV).length) [.arr 3 1 ((unit n).map intLV)] := by
  refine HSpec_of_code (E := env.x [] 0) env_ok.x (fn := Try.f176) Try.func176 rfl Try.call176 _ _ _ _ ?_
  have hp' : n ≤ Go.maxLen := by unfold Go.maxLen; omega
  have hu := unit_len n
  ((repeat ((conv => whnf); first | refine brT ?_ | refine brF ?_)); conv => whnf)
  refine ⟨n, by simp, by simp, by show 8 * n ≤ _; omega, hp', rfl, by decide, ?_⟩
  ((repeat ((conv => whnf); first | refine brT ?_ | refine brF ?_)); conv => whnf)
  refine ⟨by simp, fun _ => ?_⟩
  ((repeat ((conv => whnf); first | refine brT ?_ | refine brF ?_)); conv => whnf)
  refine loop_rule (α := Nat) (fun k => [(9, .int .i64 (k : Int))]) (fun k => [.arr 3 1 (fillLV intLV (intLV 0) (unit n) k)]) (fun k => n - k) (fun k => k ≤ n) 0 (Nat.zero_le _) ?_ ?_
  · refine ⟨?_, ⟨by simp [fillLV, intLV, hu], trivial⟩, rfl, rfl⟩
    ((repeat ((conv => whnf); refine ⟨rfl, ?_⟩)); trivial)
  intro k hk
  have hfl : (fillLV intLV (intLV 0) (unit n) k).length = n := by rw [fill_len (by omega), hu]
  ((repeat ((conv => whnf); first | refine brT ?_ | refine brF ?_)); conv => whnf)
  (refine ⟨fun h1 => ?_, fun h1 => ?_⟩ <;> rw [h1])
  · have hlt : k < n := by rw [ltI_t] at h1; simp at h1; omega
    have hlu : k < (unit n).length := by omega
    have e := step_i hlt hp'
    have eu : (unit n)[k] = (k : Int) := by simp [unit]
    ((repeat ((conv => whnf); first | refine brT ?_ | refine brF ?_)); conv => whnf)
    refine ⟨hfl.symm, rfl, k, rfl, by rw [hfl]; exact hlt, ?_⟩
    ((repeat ((conv => whnf); first | refine brT ?_ | refine brF ?_)); conv => whnf)
    refine ⟨hfl.symm, k, [], intLV 0, rfl, by simp [getP, fill_get hlu], rfl, rfl, rfl, fillLV intLV (intLV 0) (unit n) (k + 1), by rw [fill_get hlu, ← fill_set hlu, eu]; rfl, ?_⟩
    ((repeat ((conv => whnf); first | refine brT ?_ | refine brF ?_)); conv => whnf)
    refine round_end (k + 1) hlt (by omega) ⟨?_, ⟨rfl, trivial⟩, rfl, rfl⟩
    ((repeat ((conv => whnf); first | refine ⟨e, ?_⟩ | refine ⟨rfl, ?_⟩)); trivial)
  · have h4 : k = n := by rw [ltI_f] at h1; simp at h1; omega
    subst h4
    have e5 : fillLV intLV (intLV 0) (unit k) k = (unit k).map intLV := by
      have := fill_all (lv := intLV) (z := intLV 0) (ps := unit k)
      rwa [hu] at this
    ((repeat ((conv => whnf); first | refine brT ?_ | refine brF ?_)); conv => whnf)
    rw [e5]
    exact ⟨[.hs 0 k], by simp [tupOf, hu], rfl, .inl ⟨⟨rfl, trivial⟩, ⟨rfl, trivial⟩, rfl, rfl⟩⟩
/-- Where a step leads from each class. -/
def stpL (w c : List Int) (k sx : Int) : List Int :=
  match eqI k 1 with
  | true => invL c
  | false => match eqI k 2 with
    | true => cmpL (invL c) w
    | false => match (eqI k 5 || eqI k 6) with
      | true => (match eqI sx 2 with | true => cmpL (invL w) c | false => c)
      | false => match eqI k 7 with
        | true => invL w
        | false => match eqI k 8 with
          | true => w
          | false => unit w.length
theorem step_f (w c : List Int) (s : Pr) (sx : Int) (h1 : w.length ≤ 1048576) (h2 : c.length ≤ 1048576) : FSpec env.P 213 [clsLV w c, s.lv, .int .i64 sx] (rowSl (stpL w c s.a sx)) := by
  have iw := ints_f (inv_impl w (by omega))
  have ic := ints_f (inv_impl c (by omega))
  have lw := invL_len w
  have lc := invL_len c
  have un := ints_f (identity_h w.length h1)
  have cw := ints_f (compose_impl (invL c) w (by omega) (by omega))
  have cc := ints_f (compose_impl (invL w) c (by omega) (by omega))
  unfold stpL
  refine FSpec_of_code env_ok (fn := Try.f213) Try.func213 rfl Try.call213 _ _ ?_
  ((repeat ((conv => whnf); first | refine brT ?_ | refine brF ?_)); conv => whnf)
  (refine ⟨fun g1 => ?_, fun g1 => ?_⟩ <;> rw [g1])
  · ((repeat ((conv => whnf); first | refine brT ?_ | refine brF ?_)); conv => whnf)
    refine ⟨_, ic, ?_⟩
    ((repeat ((conv => whnf); first | refine brT ?_ | refine brF ?_)); conv => whnf)
    exact ⟨rfl, List.nodup_nil⟩
  ((repeat ((conv => whnf); first | refine brT ?_ | refine brF ?_)); conv => whnf)
  (refine ⟨fun g2 => ?_, fun g2 => ?_⟩ <;> rw [g2])
  · ((repeat ((conv => whnf); first | refine brT ?_ | refine brF ?_)); conv => whnf)
    refine ⟨true, by kernel_rfl, ?_⟩
    ((repeat ((conv => whnf); first | refine brT ?_ | refine brF ?_)); conv => whnf)
    refine ⟨_, ic, ?_⟩
    ((repeat ((conv => whnf); first | refine brT ?_ | refine brF ?_)); conv => whnf)
    refine ⟨_, cw, ?_⟩
    ((repeat ((conv => whnf); first | refine brT ?_ | refine brF ?_)); conv => whnf)
    exact ⟨rfl, List.nodup_nil⟩
  ((repeat ((conv => whnf); first | refine brT ?_ | refine brF ?_)); conv => whnf)
  (refine ⟨fun g5 => ?_, fun g5 => ?_⟩ <;> rw [g5])
  · ((repeat ((conv => whnf); first | refine brT ?_ | refine brF ?_)); conv => whnf)
    (refine ⟨fun g6 => ?_, fun g6 => ?_⟩ <;> rw [g6])
    · ((repeat ((conv => whnf); first | refine brT ?_ | refine brF ?_)); conv => whnf)
      refine ⟨true, by kernel_rfl, ?_⟩
      ((repeat ((conv => whnf); first | refine brT ?_ | refine brF ?_)); conv => whnf)
      refine ⟨_, iw, ?_⟩
      ((repeat ((conv => whnf); first | refine brT ?_ | refine brF ?_)); conv => whnf)
      refine ⟨_, cc, ?_⟩
      ((repeat ((conv => whnf); first | refine brT ?_ | refine brF ?_)); conv => whnf)
      exact ⟨rfl, List.nodup_nil⟩
    · ((repeat ((conv => whnf); first | refine brT ?_ | refine brF ?_)); conv => whnf)
      exact ⟨rfl, List.nodup_nil⟩
  ((repeat ((conv => whnf); first | refine brT ?_ | refine brF ?_)); conv => whnf)
  (refine ⟨fun g6 => ?_, fun g6 => ?_⟩ <;> rw [g6])
  · ((repeat ((conv => whnf); first | refine brT ?_ | refine brF ?_)); conv => whnf)
    (refine ⟨fun g9 => ?_, fun g9 => ?_⟩ <;> rw [g9])
    · ((repeat ((conv => whnf); first | refine brT ?_ | refine brF ?_)); conv => whnf)
      refine ⟨true, by kernel_rfl, ?_⟩
      ((repeat ((conv => whnf); first | refine brT ?_ | refine brF ?_)); conv => whnf)
      refine ⟨_, iw, ?_⟩
      ((repeat ((conv => whnf); first | refine brT ?_ | refine brF ?_)); conv => whnf)
      refine ⟨_, cc, ?_⟩
      ((repeat ((conv => whnf); first | refine brT ?_ | refine brF ?_)); conv => whnf)
      exact ⟨rfl, List.nodup_nil⟩
    · ((repeat ((conv => whnf); first | refine brT ?_ | refine brF ?_)); conv => whnf)
      exact ⟨rfl, List.nodup_nil⟩
  ((repeat ((conv => whnf); first | refine brT ?_ | refine brF ?_)); conv => whnf)
  (refine ⟨fun g7 => ?_, fun g7 => ?_⟩ <;> rw [g7])
  · ((repeat ((conv => whnf); first | refine brT ?_ | refine brF ?_)); conv => whnf)
    refine ⟨_, iw, ?_⟩
    ((repeat ((conv => whnf); first | refine brT ?_ | refine brF ?_)); conv => whnf)
    exact ⟨rfl, List.nodup_nil⟩
  ((repeat ((conv => whnf); first | refine brT ?_ | refine brF ?_)); conv => whnf)
  (refine ⟨fun g8 => ?_, fun g8 => ?_⟩ <;> rw [g8])
  · ((repeat ((conv => whnf); first | refine brT ?_ | refine brF ?_)); conv => whnf)
    exact ⟨rfl, List.nodup_nil⟩
  ((repeat ((conv => whnf); first | refine brT ?_ | refine brF ?_)); conv => whnf)
  intro _
  rw [List.length_map]
  ((repeat ((conv => whnf); first | refine brT ?_ | refine brF ?_)); conv => whnf)
  refine ⟨_, un, ?_⟩
  ((repeat ((conv => whnf); first | refine brT ?_ | refine brF ?_)); conv => whnf)
  exact ⟨rfl, List.nodup_nil⟩

/-! ### The model's way -/
def stpV (w c : List Int) (k sx x : Int) : Int :=
  let fa := (inv c).getD x.toNat 0
  let hu := (inv w).getD x.toNat 0
  match eqI k 1 with
  | true => fa
  | false => match eqI k 2 with
    | true => w.getD fa.toNat 0
    | false => match (eqI k 5 || eqI k 6) with
      | true => (match eqI sx 1 with | true => c.getD x.toNat 0 | false => c.getD hu.toNat 0)
      | false => match eqI k 7 with
        | true => hu
        | false => match eqI k 8 with
          | true => w.getD x.toNat 0
          | false => x
theorem invL_ok {ps : List Int} (h : permB ps = true) : invL ps = inv ps := by unfold invL; rw [h]
theorem inv_lt {ps : List Int} (h : permB ps = true) {x : Int} (h0 : 0 ≤ x) (hx : x.toNat < ps.length) : 0 ≤ (inv ps).getD x.toNat 0 ∧ ((inv ps).getD x.toNat 0).toNat < ps.length := by
  have hl := inv_len ps
  have := perm_in (perm_inv h) (show x.toNat < (inv ps).length by rw [hl]; exact hx)
  rw [getD_lt (by rw [hl]; exact hx)]
  omega
theorem idx {q : List Int} {y : Int} (e1 : 0 ≤ y) (e2 : y.toNat < q.length) : y = ((y.toNat : Nat) : Int) ∧ (q.map intLV)[y.toNat]? = some (intLV (q.getD y.toNat 0)) :=
  ⟨by omega, by rw [List.getElem?_map, List.getElem?_eq_getElem e2, getD_lt e2]; rfl⟩
theorem l6Step_spec (w c : List Int) (k sx x : Int) (hc : clsB w c = true) (h0 : 0 ≤ x) (hx : x.toNat < w.length) : FSpec env.P 120 [clsLV w c, .int .i64 k, .int .i64 sx, .int .i64 x] (.int .i64 (stpV w c k sx x)) := by
  obtain ⟨n1, n8, hl, pw, pc⟩ := clsB_at hc
  have iw := ints_f (inv_spec w (by omega))
  have ic := ints_f (inv_spec c (by omega))
  rw [invL_ok pw] at iw
  rw [invL_ok pc] at ic
  have lw := inv_lt pw h0 hx
  have lc := inv_lt pc h0 (by omega)
  have hxi : x = (x.toNat : Int) := by omega
  unfold stpV
  refine FSpec_of_code env_ok (fn := Try.f120) Try.func120 rfl Try.call120 _ _ ?_
  ((repeat ((conv => whnf); first | refine brT ?_ | refine brF ?_)); conv => whnf)
  refine ⟨_, ic, ?_⟩
  ((repeat ((conv => whnf); first | refine brT ?_ | refine brF ?_)); conv => whnf)
  refine ⟨x.toNat, intLV ((inv c).getD x.toNat 0), hxi, by rw [List.getElem?_map, List.getElem?_eq_getElem (by rw [inv_len]; omega), getD_lt (by rw [inv_len]; omega)]; rfl, rfl, ?_⟩
  ((repeat ((conv => whnf); first | refine brT ?_ | refine brF ?_)); conv => whnf)
  refine ⟨_, iw, ?_⟩
  ((repeat ((conv => whnf); first | refine brT ?_ | refine brF ?_)); conv => whnf)
  refine ⟨x.toNat, intLV ((inv w).getD x.toNat 0), hxi, by rw [List.getElem?_map, List.getElem?_eq_getElem (by rw [inv_len]; omega), getD_lt (by rw [inv_len]; omega)]; rfl, rfl, ?_⟩
  generalize (inv c).getD x.toNat 0 = fa at lc
  generalize (inv w).getD x.toNat 0 = hu at lw
  have hxc : x.toNat < c.length := by omega
  have hhc : hu.toNat < c.length := by omega
  have hfw : fa.toNat < w.length := by omega
  ((repeat ((conv => whnf); first | refine brT ?_ | refine brF ?_)); conv => whnf)
  (refine ⟨fun g1 => ?_, fun g1 => ?_⟩ <;> rw [g1])
  · ((repeat ((conv => whnf); first | refine brT ?_ | refine brF ?_)); conv => whnf)
    exact ⟨rfl, rfl, List.nodup_nil⟩
  ((repeat ((conv => whnf); first | refine brT ?_ | refine brF ?_)); conv => whnf)
  (refine ⟨fun g2 => ?_, fun g2 => ?_⟩ <;> rw [g2])
  · ((repeat ((conv => whnf); first | refine brT ?_ | refine brF ?_)); conv => whnf)
    refine ⟨fa.toNat, _, (idx (q := w) lc.1 hfw).1, (idx (q := w) lc.1 hfw).2, rfl, ?_⟩
    ((repeat ((conv => whnf); first | refine brT ?_ | refine brF ?_)); conv => whnf)
    exact ⟨rfl, rfl, List.nodup_nil⟩
  ((repeat ((conv => whnf); first | refine brT ?_ | refine brF ?_)); conv => whnf)
  (refine ⟨fun g5 => ?_, fun g5 => ?_⟩ <;> rw [g5])
  · ((repeat ((conv => whnf); first | refine brT ?_ | refine brF ?_)); conv => whnf)
    (refine ⟨fun g6 => ?_, fun g6 => ?_⟩ <;> rw [g6])
    · ((repeat ((conv => whnf); first | refine brT ?_ | refine brF ?_)); conv => whnf)
      refine ⟨x.toNat, _, (idx (q := c) h0 hxc).1, (idx (q := c) h0 hxc).2, rfl, ?_⟩
      ((repeat ((conv => whnf); first | refine brT ?_ | refine brF ?_)); conv => whnf)
      exact ⟨rfl, rfl, List.nodup_nil⟩
    · ((repeat ((conv => whnf); first | refine brT ?_ | refine brF ?_)); conv => whnf)
      refine ⟨hu.toNat, _, (idx (q := c) lw.1 hhc).1, (idx (q := c) lw.1 hhc).2, rfl, ?_⟩
      ((repeat ((conv => whnf); first | refine brT ?_ | refine brF ?_)); conv => whnf)
      exact ⟨rfl, rfl, List.nodup_nil⟩
  ((repeat ((conv => whnf); first | refine brT ?_ | refine brF ?_)); conv => whnf)
  (refine ⟨fun g6 => ?_, fun g6 => ?_⟩ <;> rw [g6])
  · ((repeat ((conv => whnf); first | refine brT ?_ | refine brF ?_)); conv => whnf)
    (refine ⟨fun g9 => ?_, fun g9 => ?_⟩ <;> rw [g9])
    · ((repeat ((conv => whnf); first | refine brT ?_ | refine brF ?_)); conv => whnf)
      refine ⟨x.toNat, _, (idx (q := c) h0 hxc).1, (idx (q := c) h0 hxc).2, rfl, ?_⟩
      ((repeat ((conv => whnf); first | refine brT ?_ | refine brF ?_)); conv => whnf)
      exact ⟨rfl, rfl, List.nodup_nil⟩
    · ((repeat ((conv => whnf); first | refine brT ?_ | refine brF ?_)); conv => whnf)
      refine ⟨hu.toNat, _, (idx (q := c) lw.1 hhc).1, (idx (q := c) lw.1 hhc).2, rfl, ?_⟩
      ((repeat ((conv => whnf); first | refine brT ?_ | refine brF ?_)); conv => whnf)
      exact ⟨rfl, rfl, List.nodup_nil⟩
  ((repeat ((conv => whnf); first | refine brT ?_ | refine brF ?_)); conv => whnf)
  (refine ⟨fun g7 => ?_, fun g7 => ?_⟩ <;> rw [g7])
  · ((repeat ((conv => whnf); first | refine brT ?_ | refine brF ?_)); conv => whnf)
    exact ⟨rfl, rfl, List.nodup_nil⟩
  ((repeat ((conv => whnf); first | refine brT ?_ | refine brF ?_)); conv => whnf)
  (refine ⟨fun g8 => ?_, fun g8 => ?_⟩ <;> rw [g8])
  · ((repeat ((conv => whnf); first | refine brT ?_ | refine brF ?_)); conv => whnf)
    refine ⟨x.toNat, _, (idx (q := w) h0 hx).1, (idx (q := w) h0 hx).2, rfl, ?_⟩
    ((repeat ((conv => whnf); first | refine brT ?_ | refine brF ?_)); conv => whnf)
    exact ⟨rfl, rfl, List.nodup_nil⟩
  ((repeat ((conv => whnf); first | refine brT ?_ | refine brF ?_)); conv => whnf)
  exact ⟨rfl, rfl, List.nodup_nil⟩
/-- Both ways are one. -/
theorem stp_perm {w c : List Int} (hc : clsB w c = true) (k sx : Int) : permB (stpL w c k sx) = true ∧ (stpL w c k sx).length = w.length := by
  obtain ⟨n1, n8, hl, pw, pc⟩ := clsB_at hc
  have e1 : cmpB (inv c) w = true := by unfold cmpB; rw [perm_inv pc, pw, inv_len, hl, eqI_refl]; rfl
  have e2 : cmpB (inv w) c = true := by unfold cmpB; rw [perm_inv pw, pc, inv_len, hl, eqI_refl]; rfl
  unfold stpL
  rw [invL_ok pw, invL_ok pc]
  unfold cmpL
  rw [e1, e2]
  simp only
  split
  · exact ⟨perm_inv pc, by rw [inv_len, hl]⟩
  · split
    · exact ⟨perm_cmp (perm_inv pc) pw (by rw [inv_len, hl]), by rw [cmp_len, inv_len, hl]⟩
    · split
      · split
        · exact ⟨perm_cmp (perm_inv pw) pc (by rw [inv_len, hl]), by rw [cmp_len, inv_len]⟩
        · exact ⟨pc, hl⟩
      · split
        · exact ⟨perm_inv pw, inv_len w⟩
        · split
          · exact ⟨pw, rfl⟩
          · exact ⟨perm_unit _, unit_len _⟩
theorem cmp_getD {ps qs : List Int} {i : Nat} (hi : i < ps.length) : (cmp ps qs).getD i 0 = qs.getD (ps.getD i 0).toNat 0 := by
  rw [getD_lt (by rw [cmp_len]; exact hi), getD_lt hi]
  simp [cmp]
theorem stp_same {w c : List Int} (hc : clsB w c = true) (k sx : Int) (hs : sx = 1 ∨ sx = 2) {x : Int} (h0 : 0 ≤ x) (hx : x.toNat < w.length) : stpV w c k sx x = (stpL w c k sx).getD x.toNat 0 := by
  obtain ⟨n1, n8, hl, pw, pc⟩ := clsB_at hc
  have e1 : cmpB (inv c) w = true := by unfold cmpB; rw [perm_inv pc, pw, inv_len, hl, eqI_refl]; rfl
  have e2 : cmpB (inv w) c = true := by unfold cmpB; rw [perm_inv pw, pc, inv_len, hl, eqI_refl]; rfl
  unfold stpL stpV
  rw [invL_ok pw, invL_ok pc]
  unfold cmpL
  rw [e1, e2]
  simp only
  cases g1 : eqI k 1 <;> simp only
  cases g2 : eqI k 2 <;> simp only
  rotate_left
  · rw [cmp_getD (by rw [inv_len]; omega)]
  cases g5 : (eqI k 5 || eqI k 6) <;> simp only
  · cases g7 : eqI k 7 <;> simp only
    cases g8 : eqI k 8 <;> simp only
    rw [getD_lt (by rw [unit_len]; exact hx)]
    simp [unit]; omega
  · rcases hs with rfl | rfl
    · rw [show eqI 1 1 = true by simp [eqI], show eqI 1 2 = false by simp [eqI]]
    · rw [show eqI 2 1 = false by simp [eqI], show eqI 2 2 = true by simp [eqI]]
      simp only
      rw [cmp_getD (by rw [inv_len]; omega)]
end Go.Proofs.Ytdhmnojnkgmmnaa
