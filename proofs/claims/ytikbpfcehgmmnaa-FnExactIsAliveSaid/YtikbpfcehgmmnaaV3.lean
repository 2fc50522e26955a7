/- Contracts of functions of the program and of its model, told over readings. -/
import Derived.Test.YtikbpfcehgmmnaaV1
namespace Go.Proofs.Ytikbpfcehgmmnaa
open Go.Lg
set_option maxHeartbeats 800000
set_option maxRecDepth 10000
set_option linter.unusedVariables false
set_option linter.unusedSimpArgs false

theorem law_isFamily (ps : List Per) (us : List Uni) (hf : FamOK ps us) : FSpec env.P 5 [famLV ps us] (.bool true) := by
  refine FSpec_of_code env_ok (fn := Try.f5) Try.func5 rfl Try.call5 _ _ ?_
  ((repeat ((conv => whnf); first | refine brT ?_ | refine brF ?_)); conv => whnf)
  refine ⟨_, szFamily_spec ps us _, ?_⟩
  ((repeat ((conv => whnf); first | refine brT ?_ | refine brF ?_)); conv => whnf)
  (refine ⟨fun h => ?_, fun h => ?_⟩ <;> rw [h])
  · ((repeat ((conv => whnf); first | refine brT ?_ | refine brF ?_)); conv => whnf); exact fin rfl
  rw [ltI_f] at h
  obtain ⟨p1, u1, s1⟩ := szFam_ok (by omega) (by omega) hf h
  ((repeat' (((repeat ((conv => whnf); first | refine brT ?_ | refine brF ?_)); conv => whnf); first | (refine And.intro ?_ ?_ <;> (intro h; rw [h]; revert h; intro _)) | (refine And.intro (a := drawB _ _ = true) (by kernel_rfl) ?_) | (refine Exists.intro _ (And.intro (toFamily_spec ps us p1 u1) ?_)) | (refine Exists.intro _ (And.intro (isFamily_spec ps us) ?_)) | (refine Exists.intro _ (And.intro (isFamily_impl ps us) ?_)) | (refine Exists.intro _ (And.intro (eqFamily_spec ps ps us us) ?_)))); all_goals ((repeat ((conv => whnf); first | refine brT ?_ | refine brF ?_)); conv => whnf))
  all_goals (refine fin ?_; simp_all [notB, eqB, eqFam_refl])

theorem law_isElder (ps : List Per) (us : List Uni) (a b : Int) (hf : FamOK ps us) : FSpec env.P 10 [famLV ps us, .int .i64 a, .int .i64 b] (.bool true) := by
  refine FSpec_of_code env_ok (fn := Try.f10) Try.func10 rfl Try.call10 _ _ ?_
  ((repeat ((conv => whnf); first | refine brT ?_ | refine brF ?_)); conv => whnf)
  refine ⟨_, szFamily_spec ps us _, ?_⟩
  ((repeat ((conv => whnf); first | refine brT ?_ | refine brF ?_)); conv => whnf)
  (refine ⟨fun h => ?_, fun h => ?_⟩ <;> rw [h])
  · ((repeat ((conv => whnf); first | refine brT ?_ | refine brF ?_)); conv => whnf); exact fin rfl
  rw [ltI_f] at h
  obtain ⟨p1, u1, s1⟩ := szFam_ok (by omega) (by omega) hf h
  ((repeat' (((repeat ((conv => whnf); first | refine brT ?_ | refine brF ?_)); conv => whnf); first | (refine And.intro ?_ ?_ <;> (intro h; rw [h]; revert h; intro _)) | (refine And.intro (a := drawB _ _ = true) (by kernel_rfl) ?_) | (refine Exists.intro _ (And.intro (toFamily_spec ps us p1 u1) ?_)) | (refine Exists.intro _ (And.intro (isElder_spec ps us a b) ?_)) | (refine Exists.intro _ (And.intro (isElder_impl ps us a b) ?_)) | (refine Exists.intro _ (And.intro (eqFamily_spec ps ps us us) ?_)))); all_goals ((repeat ((conv => whnf); first | refine brT ?_ | refine brF ?_)); conv => whnf))
  all_goals (refine fin ?_; simp_all [notB, eqB, eqFam_refl])

theorem law_isAlive (ps : List Per) (us : List Uni) (a b : Int) (hf : FamOK ps us) : FSpec env.P 16 [famLV ps us, .int .i64 a, .int .i64 b] (.bool true) := by
  refine FSpec_of_code env_ok (fn := Try.f16) Try.func16 rfl Try.call16 _ _ ?_
  ((repeat ((conv => whnf); first | refine brT ?_ | refine brF ?_)); conv => whnf)
  refine ⟨_, szFamily_spec ps us _, ?_⟩
  ((repeat ((conv => whnf); first | refine brT ?_ | refine brF ?_)); conv => whnf)
  (refine ⟨fun h => ?_, fun h => ?_⟩ <;> rw [h])
  · ((repeat ((conv => whnf); first | refine brT ?_ | refine brF ?_)); conv => whnf); exact fin rfl
  rw [ltI_f] at h
  obtain ⟨p1, u1, s1⟩ := szFam_ok (by omega) (by omega) hf h
  ((repeat' (((repeat ((conv => whnf); first | refine brT ?_ | refine brF ?_)); conv => whnf); first | (refine And.intro ?_ ?_ <;> (intro h; rw [h]; revert h; intro _)) | (refine And.intro (a := drawB _ _ = true) (by kernel_rfl) ?_) | (refine Exists.intro _ (And.intro (toFamily_spec ps us p1 u1) ?_)) | (refine Exists.intro _ (And.intro (isAlive_spec ps us a b) ?_)) | (refine Exists.intro _ (And.intro (isAlive_impl ps us a b) ?_)) | (refine Exists.intro _ (And.intro (eqFamily_spec ps ps us us) ?_)))); all_goals ((repeat ((conv => whnf); first | refine brT ?_ | refine brF ?_)); conv => whnf))
  all_goals (refine fin ?_; simp_all [notB, eqB, eqFam_refl])

theorem law_depthOf (ps : List Per) (us : List Uni) (a : Int) (hf : FamOK ps us) : FSpec env.P 8 [famLV ps us, .int .i64 a] (.bool true) := by
  refine FSpec_of_code env_ok (fn := Try.f8) Try.func8 rfl Try.call8 _ _ ?_
  ((repeat ((conv => whnf); first | refine brT ?_ | refine brF ?_)); conv => whnf)
  refine ⟨_, szFamily_spec ps us _, ?_⟩
  ((repeat ((conv => whnf); first | refine brT ?_ | refine brF ?_)); conv => whnf)
  (refine ⟨fun h => ?_, fun h => ?_⟩ <;> rw [h])
  · ((repeat ((conv => whnf); first | refine brT ?_ | refine brF ?_)); conv => whnf); exact fin rfl
  rw [ltI_f] at h
  obtain ⟨p1, u1, s1⟩ := szFam_ok (by omega) (by omega) hf h
  ((repeat' (((repeat ((conv => whnf); first | refine brT ?_ | refine brF ?_)); conv => whnf); first | (refine And.intro ?_ ?_ <;> (intro h; rw [h]; revert h; intro _)) | (refine And.intro (a := drawB _ _ = true) (by kernel_rfl) ?_) | (refine Exists.intro _ (And.intro (toFamily_spec ps us p1 u1) ?_)) | (refine Exists.intro _ (And.intro (depthOf_spec ps us a) ?_)) | (refine Exists.intro _ (And.intro (depthOf_impl ps us a) ?_)) | (refine Exists.intro _ (And.intro (eqFamily_spec ps ps us us) ?_)))); all_goals ((repeat ((conv => whnf); first | refine brT ?_ | refine brF ?_)); conv => whnf))
  all_goals (refine fin ?_; simp_all [notB, eqI_refl, eqFam_refl])

theorem law_findPerson (ps : List Per) (us : List Uni) (n : ByteArray) (hf : FamOK ps us) : FSpec env.P 7 [famLV ps us, .str n] (.bool true) := by
  refine FSpec_of_code env_ok (fn := Try.f7) Try.func7 rfl Try.call7 _ _ ?_
  ((repeat ((conv => whnf); first | refine brT ?_ | refine brF ?_)); conv => whnf)
  intro _
  ((repeat ((conv => whnf); first | refine brT ?_ | refine brF ?_)); conv => whnf)
  (refine ⟨fun h0 => ?_, fun h0 => ?_⟩ <;> rw [h0])
  · ((repeat ((conv => whnf); first | refine brT ?_ | refine brF ?_)); conv => whnf); exact fin rfl
  ((repeat ((conv => whnf); first | refine brT ?_ | refine brF ?_)); conv => whnf)
  refine ⟨_, szFamily_spec ps us _, ?_⟩
  ((repeat ((conv => whnf); first | refine brT ?_ | refine brF ?_)); conv => whnf)
  (refine ⟨fun h => ?_, fun h => ?_⟩ <;> rw [h])
  · ((repeat ((conv => whnf); first | refine brT ?_ | refine brF ?_)); conv => whnf); exact fin rfl
  rw [ltI_f] at h
  obtain ⟨p1, u1, s1⟩ := szFam_ok (by omega) (by omega) hf h
  ((repeat ((conv => whnf); first | refine brT ?_ | refine brF ?_)); conv => whnf)
  refine ⟨_, toFamily_spec ps us p1 u1, ?_⟩
  ((repeat ((conv => whnf); first | refine brT ?_ | refine brF ?_)); conv => whnf)
  refine ⟨_, findPerson_spec ps us n, ?_⟩
  have himp := findPerson_impl ps us n
  cases hfo : findO ps us n <;> rw [hfo] at himp
  · ((repeat' (((repeat ((conv => whnf); first | refine brT ?_ | refine brF ?_)); conv => whnf); first | (refine And.intro ?_ ?_ <;> (intro h; rw [h]; revert h; intro _)) | (refine And.intro (a := drawB _ _ = true) (by kernel_rfl) ?_) | (refine Exists.intro _ (And.intro (toFamily_spec ps us p1 u1) ?_)) | (refine Exists.intro _ (And.intro (himp) ?_)) | (refine Exists.intro _ (And.intro (eqFamily_spec ps ps us us) ?_)))); all_goals ((repeat ((conv => whnf); first | refine brT ?_ | refine brF ?_)); conv => whnf))
    all_goals (refine fin ?_; simp_all [notB, eqI_refl, eqB, eqFam_refl])
  · ((repeat' (((repeat ((conv => whnf); first | refine brT ?_ | refine brF ?_)); conv => whnf); first | (refine And.intro ?_ ?_ <;> (intro h; rw [h]; revert h; intro _)) | (refine And.intro (a := drawB _ _ = true) (by kernel_rfl) ?_) | (refine Exists.intro _ (And.intro (toFamily_spec ps us p1 u1) ?_)) | (refine Exists.intro _ (And.intro (himp) ?_)) | (refine Exists.intro _ (And.intro (eqFamily_spec ps ps us us) ?_)))); all_goals ((repeat ((conv => whnf); first | refine brT ?_ | refine brF ?_)); conv => whnf))
    all_goals (refine fin ?_; simp_all [notB, eqI_refl, eqB, eqFam_refl])
end Go.Proofs.Ytikbpfcehgmmnaa
