/- Contracts of functions of the program and of its model, told over readings. -/
import Derived.Test.YtikbpfcehgmmnaaBP3
namespace Go.Proofs.Ytikbpfcehgmmnaa
open Go.Lg
set_option maxHeartbeats 1600000
set_option maxRecDepth 10000
set_option linter.unusedVariables false
set_option linter.unusedSimpArgs false

def marriedL (ps : List Per) (us : List Uni) (p y : Int) : List Int := match hasP ps us p with
  | true => othersTo (keepAt ps y) p us us.length
  | false => []
theorem other_eq2 (keep : Uni → Bool) (p : Int) (u : Uni) : otherL keep p u = match otherB p u && keep u with | true => [otherV p u] | false => [] := by
  unfold otherL otherB otherV
  rw [eqI_comm p u.husband, eqI_comm p u.wife]
  cases keep u <;> cases eqI u.husband p <;> cases eqI u.wife p <;> rfl
theorem marriedL_len (ps : List Per) (us : List Uni) (p y : Int) : (marriedL ps us p y).length ≤ 60 := by
  unfold marriedL
  split
  · rename_i h
    obtain ⟨_, _, hok⟩ := hasP_lt h
    exact Nat.le_trans (othersTo_len _ _ _ _) (famOk_parts hok).2.1
  · simp
theorem marriedAt_h (ps : List Per) (us : List Uni) (p y : Int) : HSpec env.P 57 [famLV ps us, .int .i64 p, .int .i64 y] [] (.hs 0 ((marriedL ps us p y).map intLV).length) [.arr 3 1 ((marriedL ps us p y).map intLV)] := by
  refine HSpec_of_code (E := env.x [106] 0) env_ok.x (fn := Try.f57) Try.func57 rfl Try.call57 _ _ _ _ ?_
  ((repeat ((conv => whnf); first | refine brT ?_ | refine brF ?_)); conv => whnf)
  refine ⟨_, hasPerson_spec ps us p, ?_⟩
  ((repeat ((conv => whnf); first | refine brT ?_ | refine brF ?_)); conv => whnf)
  (refine ⟨fun h => ?_, fun h => ?_⟩ <;> rw [h])
  · rw [notB_t] at h
    have e : marriedL ps us p y = [] := by unfold marriedL; rw [h]
    rw [e]
    ((repeat ((conv => whnf); first | refine brT ?_ | refine brF ?_)); conv => whnf)
    refine ⟨[.hs 0 0], rfl, rfl, .inr ⟨[.nil 3 1], ?_, ?_, rfl⟩⟩
    · exact ⟨rfl, rfl, trivial⟩
    · exact ⟨rfl, rfl, trivial⟩
  · rw [notB_f] at h
    obtain ⟨p0, pl, hok⟩ := hasP_lt h
    have e : marriedL ps us p y = othersTo (keepAt ps y) p us us.length := by unfold marriedL; rw [h]
    rw [e]
    ((repeat ((conv => whnf); first | refine brT ?_ | refine brF ?_)); conv => whnf)
    refine ⟨[0, 1], _, _, _, _, partnersInAt_h (keepAt ps y) ps us p y (famOk_parts hok).2.1 (fun k hk => keepAt_spec ps us y us[k] (uni_of hok hk).1), rfl, rfl, rfl, trivial, ?_⟩
    ((repeat ((conv => whnf); first | refine brT ?_ | refine brF ?_)); conv => whnf)
    refine ⟨[.hs 0 _], rfl, rfl, .inr ⟨[.old 2], ⟨rfl, rfl, trivial⟩, ⟨rfl, rfl, trivial⟩, rfl⟩⟩

theorem marriedAt_spec (ps : List Per) (us : List Uni) (p y : Int) : FSpec env.P 56 [famLV ps us, .int .i64 p, .int .i64 y] (.own 3 1 ((marriedL ps us p y).map intLV)) := by
  refine FSpec_of_code env_ok (fn := Try.f56) Try.func56 rfl Try.call56 _ _ ?_
  ((repeat ((conv => whnf); first | refine brT ?_ | refine brF ?_)); conv => whnf)
  refine ⟨_, l1Has_spec ps us p, ?_⟩
  ((repeat ((conv => whnf); first | refine brT ?_ | refine brF ?_)); conv => whnf)
  (refine ⟨fun h => ?_, fun h => ?_⟩ <;> rw [h])
  · rw [notB_t] at h
    have e : marriedL ps us p y = [] := by unfold marriedL; rw [h]
    rw [e]
    ((repeat ((conv => whnf); first | refine brT ?_ | refine brF ?_)); conv => whnf)
    exact ⟨by decide, rfl, List.nodup_nil⟩
  · rw [notB_f] at h
    obtain ⟨p0, pl, hok⟩ := hasP_lt h
    have hu := (famOk_parts hok).2.1
    have e : marriedL ps us p y = othersTo (keepAt ps y) p us us.length := by unfold marriedL; rw [h]
    rw [e]
    ((repeat ((conv => whnf); first | refine brT ?_ | refine brF ?_)); conv => whnf)
    intro hn
    ((repeat ((conv => whnf); first | refine brT ?_ | refine brF ?_)); conv => whnf)
    refine loop_rule (α := Nat) (fun k => [(18, .undef), (22, .int .i64 (k : Int)), (7, .hs 1 ((othersTo (keepAt ps y) p us k).map intLV).length)]) (fun k => [.box (famLV ps us), .arr 3 1 ((othersTo (keepAt ps y) p us k).map intLV)])
      (fun k => us.length - k) (fun k => k ≤ us.length) 0 (Nat.zero_le _) ?_ ?_
    · refine ⟨?_, ⟨rfl, rfl, trivial⟩, rfl, rfl⟩
      ((repeat ((conv => whnf); refine ⟨rfl, ?_⟩)); trivial)
    intro k hk0
    ((repeat ((conv => whnf); first | refine brT ?_ | refine brF ?_)); conv => whnf)
    (refine ⟨fun h1 => ?_, fun h1 => ?_⟩ <;> rw [h1])
    · have hlt : k < us.length := by rw [ltI_t] at h1; simp at h1; omega
      have hs := othersTo_succ (keepAt ps y) p us hlt
      have hl := othersTo_len (keepAt ps y) p us k
      have hl1 := othersTo_len (keepAt ps y) p us (k + 1)
      have e : LV.int .i64 (IntKind.i64.wrap ((k : Int) + 1)) = LV.int .i64 ((k + 1 : Nat) : Int) := step_i hlt (by unfold Go.maxLen; omega)
      obtain ⟨hin, hy⟩ := uni_of hok hlt
      have hend := l1End_spec ps us us[k] hin hy
      ((repeat ((conv => whnf); first | refine brT ?_ | refine brF ?_)); conv => whnf)
      refine ⟨k, us[k].lv, rfl, by simp [hlt], rfl, ?_⟩
      ((repeat ((conv => whnf); first | refine brT ?_ | refine brF ?_)); conv => whnf)
      refine ⟨_, l1Other_spec us[k] p, ?_⟩
      generalize us[k] = u at hs hend
      cases he : endO ps u <;> rw [he] at hend
      all_goals
        ((repeat' (((repeat ((conv => whnf); first | refine brT ?_ | refine brF ?_)); conv => whnf); first | (refine And.intro ?_ ?_ <;> (intro h; rw [h]; revert h; intro _)) | (refine And.intro (a := drawB _ _ = true) (by kernel_rfl) ?_) | (refine Exists.intro _ (And.intro (hend) ?_)))); all_goals ((repeat ((conv => whnf); first | refine brT ?_ | refine brF ?_)); conv => whnf))
      all_goals
        first
        | (have e1 : othersTo (keepAt ps y) p us (k + 1) = othersTo (keepAt ps y) p us k ++ [otherV p u] := by { rw [hs, other_eq2]; simp_all [keepAt, lasts, notB] }
           have e2 : ((othersTo (keepAt ps y) p us k).map intLV ++ [LV.int .i64 (otherV p u)]) = (othersTo (keepAt ps y) p us (k + 1)).map intLV := by { rw [e1, List.map_append]; rfl }
           have e3 : LV.hs 1 ((othersTo (keepAt ps y) p us k).map intLV ++ [LV.int .i64 (otherV p u)]).length = LV.hs 1 ((othersTo (keepAt ps y) p us (k + 1)).map intLV).length := by rw [e2]
           have m1 : ((othersTo (keepAt ps y) p us k).map intLV ++ [LV.int .i64 (otherV p u)]).length ≤ Go.maxLen := by { rw [e2]; unfold Go.maxLen; simp; omega }
           have m2 : ((othersTo (keepAt ps y) p us k).map intLV ++ [LV.int .i64 (otherV p u)]).length * 8 ≤ 140737488355328 := by { rw [e2]; simp; omega }
           refine ⟨rfl, rfl, m1, m2, ?_⟩
           ((repeat ((conv => whnf); first | refine brT ?_ | refine brF ?_)); conv => whnf)
           refine round_endR [.old 0, .old 4] (k + 1) hlt (by omega) ⟨?_, ⟨rfl, rfl, rfl, congrArg (Blk.arr 3 1) e2, trivial⟩, rfl⟩
           repeat ((conv => whnf); first | refine ⟨rfl, e, ?_⟩ | refine ⟨rfl, e3, ?_⟩ | refine ⟨rfl, rfl, ?_⟩)
           trivial)
        | (have e1 : othersTo (keepAt ps y) p us (k + 1) = othersTo (keepAt ps y) p us k := by { rw [hs, other_eq2]; simp_all [keepAt, lasts, notB] }
           have e3 : LV.hs 1 ((othersTo (keepAt ps y) p us k).map intLV).length = LV.hs 1 ((othersTo (keepAt ps y) p us (k + 1)).map intLV).length := by rw [e1]
           refine round_endR [.old 0, .old 1] (k + 1) hlt (by omega) ⟨?_, ⟨rfl, rfl, rfl, congrArg (Blk.arr 3 1) (by rw [e1]), trivial⟩, rfl⟩
           repeat ((conv => whnf); first | refine ⟨rfl, e, ?_⟩ | refine ⟨rfl, e3, ?_⟩ | refine ⟨rfl, rfl, ?_⟩)
           trivial)
    · have h3 : k = us.length := by rw [ltI_f] at h1; simp at h1; omega
      subst h3
      ((repeat ((conv => whnf); first | refine brT ?_ | refine brF ?_)); conv => whnf)
      exact ⟨rfl, rfl, rfl, rfl, by simp⟩

theorem law_marriedAt (ps : List Per) (us : List Uni) (p y : Int) (hf : FamOK ps us) : FSpec env.P 17 [famLV ps us, .int .i64 p, .int .i64 y] (.bool true) := by
  refine FSpec_of_code (E := env.x [57, 33, 44, 45] 0) env_ok.x (fn := Try.f17) Try.func17 rfl Try.call17 _ _ ?_
  ((repeat ((conv => whnf); first | refine brT ?_ | refine brF ?_)); conv => whnf)
  refine ⟨_, szFamily_spec ps us _, ?_⟩
  ((repeat ((conv => whnf); first | refine brT ?_ | refine brF ?_)); conv => whnf)
  (refine ⟨fun h => ?_, fun h => ?_⟩ <;> rw [h])
  · ((repeat ((conv => whnf); first | refine brT ?_ | refine brF ?_)); conv => whnf); exact fin rfl
  rw [ltI_f] at h
  obtain ⟨p1, u1, s1⟩ := szFam_ok (by omega) (by omega) hf h
  have lp := marriedL_len ps us p y
  ((repeat ((conv => whnf); first | refine brT ?_ | refine brF ?_)); conv => whnf)
  refine ⟨[], _, _, _, _, toFamily_hm ps us p1 u1, rfl, rfl, rfl, trivial, ?_⟩
  ((repeat ((conv => whnf); first | refine brT ?_ | refine brF ?_)); conv => whnf)
  refine ⟨rfl, ?_⟩
  ((repeat ((conv => whnf); first | refine brT ?_ | refine brF ?_)); conv => whnf)
  refine ⟨rfl, ?_⟩
  ((repeat ((conv => whnf); first | refine brT ?_ | refine brF ?_)); conv => whnf)
  refine ⟨_, marriedAt_spec ps us p y, ?_⟩
  rw [flat_ints]
  ((repeat ((conv => whnf); first | refine brT ?_ | refine brF ?_)); conv => whnf)
  refine ⟨[], _, _, _, _, toFamily_hm ps us p1 u1, rfl, rfl, rfl, trivial, ?_⟩
  ((repeat ((conv => whnf); first | refine brT ?_ | refine brF ?_)); conv => whnf)
  refine ⟨[], _, _, _, _, marriedAt_h ps us p y, rfl, ?_⟩
  ((repeat ((conv => whnf); first | refine brT ?_ | refine brF ?_)); conv => whnf)
  refine ⟨rfl, ?_⟩
  ((repeat ((conv => whnf); first | refine brT ?_ | refine brF ?_)); conv => whnf)
  refine ⟨rfl, ?_⟩
  ((repeat ((conv => whnf); first | refine brT ?_ | refine brF ?_)); conv => whnf)
  refine ⟨rfl, rfl, ⟨rfl, flats_ints _, trivial⟩, ?_⟩
  ((repeat ((conv => whnf); first | refine brT ?_ | refine brF ?_)); conv => whnf)
  refine ⟨rfl, ?_⟩
  ((repeat ((conv => whnf); first | refine brT ?_ | refine brF ?_)); conv => whnf)
  refine ⟨_, eqIntS_spec _ _, ?_⟩
  rw [eqIntS_refl]
  ((repeat ((conv => whnf); first | refine brT ?_ | refine brF ?_)); conv => whnf)
  rw [show notB true = false by simp [notB]]
  ((repeat ((conv => whnf); first | refine brT ?_ | refine brF ?_)); conv => whnf)
  refine ⟨by kernel_rfl, ?_⟩
  ((repeat ((conv => whnf); first | refine brT ?_ | refine brF ?_)); conv => whnf)
  refine ⟨_, toFamily_spec ps us p1 u1, ?_⟩
  ((repeat ((conv => whnf); first | refine brT ?_ | refine brF ?_)); conv => whnf)
  refine ⟨rfl, ?_⟩
  ((repeat ((conv => whnf); first | refine brT ?_ | refine brF ?_)); conv => whnf)
  refine ⟨rfl, ?_⟩
  ((repeat ((conv => whnf); first | refine brT ?_ | refine brF ?_)); conv => whnf)
  refine ⟨_, eqFamily_spec ps ps us us, ?_⟩
  rw [eqFam_refl]
  ((repeat ((conv => whnf); first | refine brT ?_ | refine brF ?_)); conv => whnf)
  rw [show notB true = false by simp [notB]]
  ((repeat ((conv => whnf); first | refine brT ?_ | refine brF ?_)); conv => whnf)
  refine ⟨[3, 4], _, _, _, _, markFamily_hm ps us 1 (by omega), rfl, rfl, rfl, trivial, ?_⟩
  ((repeat ((conv => whnf); first | refine brT ?_ | refine brF ?_)); conv => whnf)
  rw [show ltI ((1 + 6 * ps.length + 4 * us.length : Nat) : Int) 0 = false by rw [ltI_f]; omega]
  ((repeat ((conv => whnf); first | refine brT ?_ | refine brF ?_)); conv => whnf)
  refine ⟨rfl, ?_⟩
  ((repeat ((conv => whnf); first | refine brT ?_ | refine brF ?_)); conv => whnf)
  refine ⟨_, eqIntS_spec _ _, ?_⟩
  rw [eqIntS_refl]
  ((repeat ((conv => whnf); first | refine brT ?_ | refine brF ?_)); conv => whnf)
  rw [show notB true = false by simp [notB]]
  ((repeat ((conv => whnf); first | refine brT ?_ | refine brF ?_)); conv => whnf)
  have hx : ∀ xs : List Int, xs.length ≤ 60 → (1 : Int) + (xs.length : Int) ≤ 61 := fun xs h => by omega
  refine ⟨[6], _, _, _, _, markIntS_spec (marriedL ps us p y) _ rfl 1 (by omega) (by have := hx _ lp; omega), rfl, rfl, rfl, trivial, ?_⟩
  ((repeat ((conv => whnf); first | refine brT ?_ | refine brF ?_)); conv => whnf)
  refine ⟨by simp [marks_len], ?_⟩
  ((repeat ((conv => whnf); first | refine brT ?_ | refine brF ?_)); conv => whnf)
  refine ⟨_, heldIntS_spec 1 (marriedL ps us p y).length (by omega) (by have := hx _ lp; omega), ?_⟩
  ((repeat ((conv => whnf); first | refine brT ?_ | refine brF ?_)); conv => whnf)
  rw [show ltI (1 + ((marriedL ps us p y).length : Int)) 0 = false by rw [ltI_f]; omega]
  ((repeat ((conv => whnf); first | refine brT ?_ | refine brF ?_)); conv => whnf)
  rw [show notB (eqI (1 + ((marriedL ps us p y).length : Int)) (1 + ((marriedL ps us p y).length : Int))) = false by simp [notB, eqI_refl]]
  ((repeat ((conv => whnf); first | refine brT ?_ | refine brF ?_)); conv => whnf)
  refine ⟨[], _, _, _, _, toFamily_hm ps us p1 u1, rfl, rfl, rfl, trivial, ?_⟩
  ((repeat ((conv => whnf); first | refine brT ?_ | refine brF ?_)); conv => whnf)
  refine ⟨[], _, _, _, _, marriedAt_h ps us p y, rfl, ?_⟩
  ((repeat ((conv => whnf); first | refine brT ?_ | refine brF ?_)); conv => whnf)
  refine ⟨rfl, ?_⟩
  ((repeat ((conv => whnf); first | refine brT ?_ | refine brF ?_)); conv => whnf)
  refine ⟨rfl, ?_⟩
  ((repeat ((conv => whnf); first | refine brT ?_ | refine brF ?_)); conv => whnf)
  refine ⟨rfl, rfl, ⟨rfl, flats_ints _, trivial⟩, ?_⟩
  ((repeat ((conv => whnf); first | refine brT ?_ | refine brF ?_)); conv => whnf)
  refine ⟨rfl, ?_⟩
  ((repeat ((conv => whnf); first | refine brT ?_ | refine brF ?_)); conv => whnf)
  refine ⟨_, eqIntS_spec _ _, ?_⟩
  rw [eqIntS_refl]
  ((repeat ((conv => whnf); first | refine brT ?_ | refine brF ?_)); conv => whnf)
  rw [show notB true = false by simp [notB]]
  ((repeat ((conv => whnf); first | refine brT ?_ | refine brF ?_)); conv => whnf)
  refine ⟨by simp [marks_len], ?_⟩
  ((repeat ((conv => whnf); first | refine brT ?_ | refine brF ?_)); conv => whnf)
  refine ⟨_, heldIntS_spec 1 (marriedL ps us p y).length (by omega) (by have := hx _ lp; omega), ?_⟩
  ((repeat ((conv => whnf); first | refine brT ?_ | refine brF ?_)); conv => whnf)
  rw [show ltI (1 + ((marriedL ps us p y).length : Int)) 0 = false by rw [ltI_f]; omega]
  ((repeat ((conv => whnf); first | refine brT ?_ | refine brF ?_)); conv => whnf)
  rw [show notB (eqI (1 + ((marriedL ps us p y).length : Int)) (1 + ((marriedL ps us p y).length : Int))) = false by simp [notB, eqI_refl]]
  ((repeat ((conv => whnf); first | refine brT ?_ | refine brF ?_)); conv => whnf)
  exact fin rfl
end Go.Proofs.Ytikbpfcehgmmnaa
