/- Contracts of functions of the program and of its model, told over readings. -/
import Derived.Test.YtfdjeflnjciloaaBD1
namespace Go.Proofs.Ytfdjeflnjciloaa
open Go.Lg
set_option maxHeartbeats 1600000
set_option maxRecDepth 10000
set_option linter.unusedVariables false
set_option linter.unusedSimpArgs false

theorem specPairs_h (n : Int) (rows : List (List Int)) :
    HSpec env.P 83 [relLV n rows] [] (.hs 0 ((pairsL n rows).map Pr.lv).length) [.arr 109 2 ((pairsL n rows).map Pr.lv)] := by
  refine HSpec_of_code (E := env.x [] 0) env_ok.x (fn := Try.f83) Try.func83 rfl Try.call83 _ _ _ _ ?_
  ((repeat ((conv => whnf); first | refine brT ?_ | refine brF ?_)); conv => whnf)
  refine ⟨_, isRelation_spec n rows, ?_⟩
  ((repeat ((conv => whnf); first | refine brT ?_ | refine brF ?_)); conv => whnf)
  (refine ⟨fun h => ?_, fun h => ?_⟩ <;> rw [h])
  · rw [notB_t] at h
    have e : pairsL n rows = [] := by unfold pairsL; rw [h]
    rw [e]
    ((repeat ((conv => whnf); first | refine brT ?_ | refine brF ?_)); conv => whnf)
    exact ⟨[.hs 0 0], rfl, rfl, .inr ⟨[.nil 109 2], ⟨rfl, rfl, trivial⟩, ⟨rfl, rfl, trivial⟩, rfl⟩⟩
  rw [notB_f] at h
  have e : pairsL n rows = prFrom 0 rows := by unfold pairsL; rw [h]
  have hr := relIn_of h
  have ht := hr.tot
  rw [e]
  ((repeat ((conv => whnf); first | refine brT ?_ | refine brF ?_)); conv => whnf)
  intro hm
  have hm' : rows.length ≤ Go.maxLen := by simpa using hm
  ((repeat ((conv => whnf); first | refine brT ?_ | refine brF ?_)); conv => whnf)
  refine loop_ruleR (α := Nat) [.old 0, .old 1] (fun k => [(11, .undef), (15, .int .i64 (k : Int)), (3, .hs 1 ((prTo rows k 0).map Pr.lv).length)]) (fun k => [.box (relLV n rows), .arr 109 2 ((prTo rows k 0).map Pr.lv)]) (fun k => rows.length - k) (fun k => k ≤ rows.length) 0 (Nat.zero_le _) ?_ ?_
  · refine ⟨?_, ⟨rfl, rfl, rfl, rfl, trivial⟩, rfl⟩
    ((repeat ((conv => whnf); refine ⟨rfl, rfl, ?_⟩)); trivial)
  intro k hk
  ((repeat ((conv => whnf); first | refine brT ?_ | refine brF ?_)); conv => whnf)
  (refine ⟨fun h1 => ?_, fun h1 => ?_⟩ <;> rw [h1])
  · have hlt : k < rows.length := by rw [ltI_t] at h1; simp at h1; omega
    have e1 := step_i hlt hm'
    ((repeat ((conv => whnf); first | refine brT ?_ | refine brF ?_)); conv => whnf)
    refine ⟨k, rowSl rows[k], rfl, by simp [hlt], rfl, ?_⟩
    ((repeat ((conv => whnf); first | refine brT ?_ | refine brF ?_)); conv => whnf)
    intro hmr
    have hmr' : rows[k].length ≤ Go.maxLen := by simpa using hmr
    ((repeat ((conv => whnf); first | refine brT ?_ | refine brF ?_)); conv => whnf)
    refine loop_ruleR (α := Nat) [.old 0, .old 1] (fun i => [(22, .int .i64 (i : Int)), (3, .hs 1 ((prTo rows k i).map Pr.lv).length)]) (fun i => [.box (relLV n rows), .arr 109 2 ((prTo rows k i).map Pr.lv)]) (fun i => rows[k].length - i) (fun i => i ≤ rows[k].length) 0 (Nat.zero_le _) ?_ ?_
    · refine ⟨?_, ⟨rfl, rfl, rfl, rfl, trivial⟩, rfl⟩
      ((repeat ((conv => whnf); refine ⟨rfl, rfl, ?_⟩)); trivial)
    intro i hi
    ((repeat ((conv => whnf); first | refine brT ?_ | refine brF ?_)); conv => whnf)
    (refine ⟨fun h2 => ?_, fun h2 => ?_⟩ <;> rw [h2])
    · have hil : i < rows[k].length := by rw [ltI_t] at h2; simp at h2; omega
      have e2 := step_i hil hmr'
      have hsu := prTo_succ hlt hil
      have hle := prTo_len hlt (i := i + 1) hil
      have e4 : ((prTo rows k i).map Pr.lv ++ [LV.st [LV.int .i64 (k : Int), LV.int .i64 rows[k][i]]]) = (prTo rows k (i + 1)).map Pr.lv := by rw [hsu, List.map_append]; rfl
      have e3 : LV.hs 1 ((prTo rows k i).map Pr.lv ++ [LV.st [LV.int .i64 (k : Int), LV.int .i64 rows[k][i]]]).length = LV.hs 1 ((prTo rows k (i + 1)).map Pr.lv).length := by rw [e4]
      ((repeat ((conv => whnf); first | refine brT ?_ | refine brF ?_)); conv => whnf)
      refine ⟨i, intLV rows[k][i], rfl, by simp [hil], rfl, ?_⟩
      ((repeat ((conv => whnf); first | refine brT ?_ | refine brF ?_)); conv => whnf)
      refine ⟨rfl, rfl, by rw [e4]; unfold Go.maxLen; simp; omega, by rw [e4]; simp; omega, ?_⟩
      ((repeat ((conv => whnf); first | refine brT ?_ | refine brF ?_)); conv => whnf)
      refine round_endR [.old 0, .old 3] (i + 1) hil (by omega) ⟨?_, ⟨rfl, rfl, rfl, congrArg (Blk.arr 109 2) e4, trivial⟩, rfl⟩
      repeat ((conv => whnf); first | refine ⟨rfl, e2, ?_⟩ | refine ⟨rfl, e3, ?_⟩ | refine ⟨rfl, rfl, ?_⟩)
      trivial
    · have hil : i = rows[k].length := by rw [ltI_f] at h2; simp at h2; omega
      have e4 : prTo rows k i = prTo rows (k + 1) 0 := by rw [hil, prTo_row hlt]
      have e3 : LV.hs 1 ((prTo rows k i).map Pr.lv).length = LV.hs 1 ((prTo rows (k + 1) 0).map Pr.lv).length := by rw [e4]
      ((repeat ((conv => whnf); first | refine brT ?_ | refine brF ?_)); conv => whnf)
      refine round_endR [.old 0, .old 1] (k + 1) hlt (by omega) ⟨?_, ⟨rfl, rfl, rfl, congrArg (Blk.arr 109 2) (by rw [e4]), trivial⟩, rfl⟩
      repeat ((conv => whnf); first | refine ⟨rfl, e1, ?_⟩ | refine ⟨rfl, e3, ?_⟩ | refine ⟨rfl, rfl, ?_⟩)
      trivial
  · have h3 : k = rows.length := by rw [ltI_f] at h1; simp at h1; omega
    subst h3
    ((repeat ((conv => whnf); first | refine brT ?_ | refine brF ?_)); conv => whnf)
    refine ⟨[.hs 0 ((prTo rows rows.length 0).map Pr.lv).length], by rw [prTo_end]; rfl, rfl, .inr ⟨[.old 1], ⟨rfl, rfl, trivial⟩, ⟨rfl, congrArg (Blk.arr 109 2) (by rw [prTo_end]), trivial⟩, rfl⟩⟩
end Go.Proofs.Ytfdjeflnjciloaa
