/- Contracts of functions of the program and of its model, told over readings. -/
import Derived.Test.YtfdjeflnjciloaaU5
namespace Go.Proofs.Ytfdjeflnjciloaa
open Go.Lg
set_option maxHeartbeats 800000
set_option maxRecDepth 10000
set_option linter.unusedVariables false
set_option linter.unusedSimpArgs false

theorem in_iff {x : Int} {n : Nat} (hn : n ≤ 1000) : (leI 0 x && leI x (IntKind.i64.wrap ((n : Int) - 1))) = true ↔ 0 ≤ x ∧ x < n := by
  rw [wrap64 (by omega) (by omega), Bool.and_eq_true, leI_t, leI_t]
  omega

theorem unitedTo_succ {us : List Uni} {m f : Int} {j : Nat} (h : j < us.length) : (us.take (j + 1)).any (unitedOf m f) = ((us.take j).any (unitedOf m f) || unitedOf m f us[j]) := by
  rw [List.take_succ_eq_append_getElem h, List.any_append]
  simp
theorem united_yes {us : List Uni} {m f : Int} {j k : Nat} (hj : j < k) (h : j < us.length) (e : unitedOf m f us[j] = true) : (us.take k).any (unitedOf m f) = true := by
  rw [List.any_eq_true]
  refine ⟨us[j], ?_, e⟩
  rw [List.mem_take_iff_getElem]
  exact ⟨j, by omega, rfl⟩

/-- spec.l1Union -/
theorem l1Union_spec (ps : List Per) (us : List Uni) (k : Nat) (hk : k < us.length) (hl : ps.length ≤ 40) (hul : us.length ≤ 60) : FSpec env.P 183 [famLV ps us, .int .i64 (k : Int)] (.bool (unionOk ps (us.take k) us[k])) := by
  refine FSpec_of_code env_ok (fn := Try.f183) Try.func183 rfl Try.call183 _ _ ?_
  ((repeat ((conv => whnf); first | refine brT ?_ | refine brF ?_)); conv => whnf)
  refine ⟨k, us[k].lv, rfl, by simp [hk], rfl, ?_⟩
  ((repeat ((conv => whnf); first | refine brT ?_ | refine brF ?_)); conv => whnf)
  intro hn
  have hlen : ((ps.map Per.lv).length : Int) = ps.length := by simp
  rw [hlen]
  have hin : ∀ x : Int, (leI 0 x && leI x (IntKind.i64.wrap ((ps.length : Int) - 1))) = true ↔ 0 ≤ x ∧ x < ps.length := fun x => in_iff (by omega)
  have hno : ∀ x s : Int, ¬ (0 ≤ x ∧ x < ps.length) → ofSex ps x s = false := fun x s h => by
    cases e : ofSex ps x s with
    | false => rfl
    | true => obtain ⟨a, b, _⟩ := ofSex_lt e; exact absurd ⟨a, by omega⟩ h
  have hsex : ∀ (x s : Int) (h0 : 0 ≤ x) (h : x.toNat < ps.length), ofSex ps x s = eqI ps[x.toNat].sex s := fun x s h0 h => by
    unfold ofSex; rw [leI_t.2 h0, List.getElem?_eq_getElem h]; rfl
  ((repeat' (((repeat ((conv => whnf); first | refine brT ?_ | refine brF ?_)); conv => whnf); first | (refine And.intro ?_ ?_ <;> (intro h; rw [h]; revert h; intro _)) | (refine And.intro (a := drawB _ _ = true) (by kernel_rfl) ?_) | (refine Exists.intro _ (And.intro (l1In_spec _ _ _) ?_)))); all_goals ((repeat ((conv => whnf); first | refine brT ?_ | refine brF ?_)); conv => whnf))
  all_goals first
    | (refine fin ?_; grind [unionOk, notB_t, notB_f])
    | skip
  rename_i a1 a2
  rw [notB_f, hin] at a1 a2
  have ml : us[k].husband.toNat < ps.length := by omega
  have wl : us[k].wife.toNat < ps.length := by omega
  have hm := hsex us[k].husband 1 a1.1 ml
  have hw := hsex us[k].wife 2 a2.1 wl
  have hb : bothFit ps us[k] = (fits us[k] ps[us[k].husband.toNat] && fits us[k] ps[us[k].wife.toNat]) := by simp [bothFit, ml, wl]
  refine ⟨us[k].husband.toNat, ps[us[k].husband.toNat].lv, by omega, by simp [ml], rfl, ?_⟩
  ((repeat ((conv => whnf); first | refine brT ?_ | refine brF ?_)); conv => whnf)
  (refine ⟨fun b1 => ?_, fun b1 => ?_⟩ <;> rw [b1])
  · rw [notB_t] at b1
    ((repeat ((conv => whnf); first | refine brT ?_ | refine brF ?_)); conv => whnf); refine fin ?_
    simp [unionOk, hm, b1]
  rw [notB_f] at b1
  ((repeat ((conv => whnf); first | refine brT ?_ | refine brF ?_)); conv => whnf)
  refine ⟨us[k].wife.toNat, ps[us[k].wife.toNat].lv, by omega, by simp [wl], rfl, ?_⟩
  ((repeat' (((repeat ((conv => whnf); first | refine brT ?_ | refine brF ?_)); conv => whnf); first | (refine And.intro ?_ ?_ <;> (intro h; rw [h]; revert h; intro _)) | (refine And.intro (a := drawB _ _ = true) (by kernel_rfl) ?_) | (refine Exists.intro _ (And.intro (l1In_spec _ _ _) ?_)))); all_goals ((repeat ((conv => whnf); first | refine brT ?_ | refine brF ?_)); conv => whnf))
  all_goals first
    | (refine fin ?_; grind [unionOk, endYear, notB_t, notB_f, ltI_t, ltI_f, leI_t, leI_f])
    | skip
  all_goals
    have hu : unionOk ps (us.take k) us[k] = (notB ((us.take k).any (unitedOf us[k].husband us[k].wife)) && (fits us[k] ps[us[k].husband.toNat] && fits us[k] ps[us[k].wife.toNat])) := by
      have s3 : leI us[k].since 9999 = true := by grind [ltI_t, ltI_f, leI_t, leI_f]
      have s4 : endYear us[k].till us[k].since = true := by grind [endYear, notB_t, notB_f]
      have s5 : ofSex ps us[k].wife 2 = true := by grind [notB_t, notB_f]
      unfold unionOk
      rw [hb, hm, b1, s3, s4, s5]
      simp
    refine ⟨rfl, fun _ => ?_⟩
    ((repeat ((conv => whnf); first | refine brT ?_ | refine brF ?_)); conv => whnf)
    refine loop_rule (α := Nat) (fun j => [(75, .int .i64 (j : Int))]) (fun j => [.box (famLV ps us), .box us[k].lv, .arr 3 1 [.int .i64 us[k].husband, .int .i64 us[k].wife]]) (fun j => 2 - j)
      (fun j => j ≤ 2 ∧ ∀ i (h : i < 2), i < j → fits us[k] ([ps[us[k].husband.toNat], ps[us[k].wife.toNat]][i]'h) = true) 0 ⟨Nat.zero_le _, fun j h k => by omega⟩ ?_ ?_
    · refine ⟨?_, ⟨rfl, rfl, rfl, trivial⟩, rfl, rfl⟩
      ((repeat ((conv => whnf); refine ⟨rfl, ?_⟩)); trivial)
    rintro j ⟨hj, hf⟩
    ((repeat ((conv => whnf); first | refine brT ?_ | refine brF ?_)); conv => whnf)
    (refine ⟨fun h1 => ?_, fun h1 => ?_⟩ <;> rw [h1])
    · have hlt : j < 2 := by rw [ltI_t] at h1; simp at h1; omega
      have e : LV.int .i64 (IntKind.i64.wrap ((j : Int) + 1)) = LV.int .i64 ((j + 1 : Nat) : Int) := step_i hlt (by decide)
      have hfno : fits us[k] ([ps[us[k].husband.toNat], ps[us[k].wife.toNat]][j]'hlt) = false → unionOk ps (us.take k) us[k] = false := fun h => by
        rw [hu]
        match j, hlt, h with
        | 0, _, h => simp at h; simp [h]
        | 1, _, h => simp at h; simp [h]
      have hx : ∃ x : Int, ([LV.int .i64 us[k].husband, LV.int .i64 us[k].wife])[j]? = some (.int .i64 x) ∧ 0 ≤ x ∧ ∃ h : x.toNat < ps.length, ps[x.toNat] = [ps[us[k].husband.toNat], ps[us[k].wife.toNat]][j]'hlt := by
        match j, hlt with
        | 0, _ => exact ⟨_, rfl, a1.1, ml, rfl⟩
        | 1, _ => exact ⟨_, rfl, a2.1, wl, rfl⟩
      obtain ⟨x, hx1, hx2, hx3, hx4⟩ := hx
      ((repeat ((conv => whnf); first | refine brT ?_ | refine brF ?_)); conv => whnf)
      refine ⟨rfl, by decide, j, rfl, hlt, ?_⟩
      ((repeat ((conv => whnf); first | refine brT ?_ | refine brF ?_)); conv => whnf)
      refine ⟨rfl, by simp, .int .i64 x, by simp only [getP, hx1], rfl, ?_⟩
      ((repeat ((conv => whnf); first | refine brT ?_ | refine brF ?_)); conv => whnf)
      refine ⟨x.toNat, ps[x.toNat].lv, by omega, by simp [hx3], rfl, ?_⟩
      rw [hx4]
      generalize hq : [ps[us[k].husband.toNat], ps[us[k].wife.toNat]][j]'hlt = q at hfno
      ((repeat' (((repeat ((conv => whnf); first | refine brT ?_ | refine brF ?_)); conv => whnf); (refine And.intro ?_ ?_ <;> (intro h; rw [h]; revert h; intro _)))); all_goals ((repeat ((conv => whnf); first | refine brT ?_ | refine brF ?_)); conv => whnf))
      all_goals first
        | (refine fin ?_
           rw [hfno]
           have hmx : leI (maxI us[k].since us[k].till) q.died = (leI us[k].since q.died && leI us[k].till q.died) := by
             rw [Bool.eq_iff_iff]; simp only [Bool.and_eq_true, leI_t]; unfold maxI; split <;> omega
           simp only [fits, livedTo, hmx]
           grind [notB_t, notB_f, ltI_t, ltI_f, leI_t, leI_f, eqI_t, eqI_f])
        | skip
      all_goals
        refine round_end (j + 1) ⟨hlt, fun i hi hij => ?_⟩ (by omega) ⟨?_, ⟨rfl, rfl, rfl, trivial⟩, rfl, rfl⟩
        · by_cases ej : i = j
          · subst ej
            rw [hq]
            have hmx : leI (maxI us[k].since us[k].till) q.died = (leI us[k].since q.died && leI us[k].till q.died) := by
              rw [Bool.eq_iff_iff]; simp only [Bool.and_eq_true, leI_t]; unfold maxI; split <;> omega
            simp only [fits, livedTo, hmx]
            grind [notB_t, notB_f, ltI_t, ltI_f, leI_t, leI_f, eqI_t, eqI_f]
          · exact hf i hi (by omega)
        · ((repeat ((conv => whnf); first | refine ⟨e, ?_⟩ | refine ⟨rfl, ?_⟩)); trivial)
    · have h3 : j = 2 := by rw [ltI_f] at h1; simp at h1; omega
      subst h3
      have f0 := hf 0 (by omega) (by omega)
      have f1 := hf 1 (by omega) (by omega)
      simp at f0 f1
      have hu' : unionOk ps (us.take k) us[k] = notB ((us.take k).any (unitedOf us[k].husband us[k].wife)) := by rw [hu, f0, f1]; simp
      ((repeat ((conv => whnf); first | refine brT ?_ | refine brF ?_)); conv => whnf)
      refine loop_rule (α := Nat) (fun j => [(10, .int .i64 (j : Int))]) (fun j => [.box (famLV ps us), .box us[k].lv, .arr 3 1 [.int .i64 us[k].husband, .int .i64 us[k].wife]]) (fun j => k - j)
        (fun j => j ≤ k ∧ (us.take j).any (unitedOf us[k].husband us[k].wife) = false) 0 ⟨Nat.zero_le _, rfl⟩ ?_ ?_
      · refine ⟨?_, ⟨rfl, rfl, rfl, trivial⟩, rfl, rfl⟩
        ((repeat ((conv => whnf); refine ⟨rfl, ?_⟩)); trivial)
      rintro j ⟨hj, hf⟩
      ((repeat ((conv => whnf); first | refine brT ?_ | refine brF ?_)); conv => whnf)
      (refine ⟨fun g1 => ?_, fun g1 => ?_⟩ <;> rw [g1])
      · have hjl : j < k := by rw [ltI_t] at g1; omega
        have hju : j < us.length := by omega
        have e := step_i hjl (by unfold Go.maxLen; omega)
        ((repeat ((conv => whnf); first | refine brT ?_ | refine brF ?_)); conv => whnf)
        refine ⟨by kernel_rfl, ?_⟩
        ((repeat ((conv => whnf); first | refine brT ?_ | refine brF ?_)); conv => whnf)
        refine ⟨j, us[j].lv, rfl, by simp [hju], rfl, ?_⟩
        ((repeat ((conv => whnf); first | refine brT ?_ | refine brF ?_)); conv => whnf)
        (refine ⟨fun g2 => ?_, fun g2 => ?_⟩ <;> rw [g2])
        · ((repeat ((conv => whnf); first | refine brT ?_ | refine brF ?_)); conv => whnf)
          refine ⟨j, us[j].lv, rfl, by simp [hju], rfl, ?_⟩
          ((repeat ((conv => whnf); first | refine brT ?_ | refine brF ?_)); conv => whnf)
          (refine ⟨fun g3 => ?_, fun g3 => ?_⟩ <;> rw [g3])
          · ((repeat ((conv => whnf); first | refine brT ?_ | refine brF ?_)); conv => whnf)
            refine fin ?_
            rw [hu', united_yes hjl hju (by simp [unitedOf, g2, g3])]
            simp [notB]
          · ((repeat ((conv => whnf); first | refine brT ?_ | refine brF ?_)); conv => whnf)
            refine round_end (j + 1) ⟨hjl, by rw [unitedTo_succ hju, hf]; simp [unitedOf, g3]⟩ (by omega) ⟨?_, ⟨rfl, rfl, rfl, trivial⟩, rfl, rfl⟩
            ((repeat ((conv => whnf); first | refine ⟨e, ?_⟩ | refine ⟨rfl, ?_⟩)); trivial)
        · ((repeat ((conv => whnf); first | refine brT ?_ | refine brF ?_)); conv => whnf)
          refine round_end (j + 1) ⟨hjl, by rw [unitedTo_succ hju, hf]; simp [unitedOf, g2]⟩ (by omega) ⟨?_, ⟨rfl, rfl, rfl, trivial⟩, rfl, rfl⟩
          ((repeat ((conv => whnf); first | refine ⟨e, ?_⟩ | refine ⟨rfl, ?_⟩)); trivial)
      · have hjk : j = k := by rw [ltI_f] at g1; omega
        subst hjk
        ((repeat ((conv => whnf); first | refine brT ?_ | refine brF ?_)); conv => whnf)
        refine fin ?_
        rw [hu', hf]
        simp [notB]
end Go.Proofs.Ytfdjeflnjciloaa
