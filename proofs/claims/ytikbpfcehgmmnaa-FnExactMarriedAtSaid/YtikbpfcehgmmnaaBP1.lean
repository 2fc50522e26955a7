/- Contracts of functions of the program and of its model, told over readings. -/
import Derived.Test.YtikbpfcehgmmnaaBH3
namespace Go.Proofs.Ytikbpfcehgmmnaa
open Go.Lg
set_option maxHeartbeats 1600000
set_option maxRecDepth 10000
set_option linter.unusedVariables false
set_option linter.unusedSimpArgs false

/-! PartnersOf: the other of each union that is kept, in order. -/
def otherL (keep : Uni → Bool) (p : Int) (u : Uni) : List Int := match keep u with
  | false => []
  | true => match eqI p u.husband with
    | true => [u.wife]
    | false => match eqI p u.wife with
      | true => [u.husband]
      | false => []
def othersTo (keep : Uni → Bool) (p : Int) (us : List Uni) (k : Nat) : List Int := (us.take k).flatMap (otherL keep p)
theorem othersTo_succ (keep : Uni → Bool) (p : Int) (us : List Uni) {k : Nat} (h : k < us.length) : othersTo keep p us (k + 1) = othersTo keep p us k ++ otherL keep p us[k] := by
  unfold othersTo
  rw [List.take_succ_eq_append_getElem h, List.flatMap_append]
  simp
theorem otherL_len (keep : Uni → Bool) (p : Int) (u : Uni) : (otherL keep p u).length ≤ 1 := by
  unfold otherL
  repeat' split
  all_goals simp
theorem othersTo_len (keep : Uni → Bool) (p : Int) (us : List Uni) (k : Nat) : (othersTo keep p us k).length ≤ us.length := by
  unfold othersTo
  have : ∀ l : List Uni, (l.flatMap (otherL keep p)).length ≤ l.length := by
    intro l
    induction l with
    | nil => simp
    | cons x xs ih => simp only [List.flatMap_cons, List.length_append, List.length_cons]; have := otherL_len keep p x; omega
  exact Nat.le_trans (this _) (by simp; omega)

theorem partnersIn_h (keep : Uni → Bool) (ps : List Per) (us : List Uni) (p : Int) (hu : us.length ≤ 60)
    (hk : ∀ u : Uni, FSpec env.P 107 [u.lv] (.bool (keep u))) :
    HSpec env.P 106 [famLV ps us, .int .i64 p, .clos 107 []] [] (.hs 0 ((othersTo keep p us us.length).map intLV).length) [.arr 3 1 ((othersTo keep p us us.length).map intLV)] := by
  refine HSpec_of_code (E := env.x [] 0) env_ok.x (fn := Try.f106) Try.func106 rfl Try.call106 _ _ _ _ ?_
  ((repeat ((conv => whnf); first | refine brT ?_ | refine brF ?_)); conv => whnf)
  intro hn
  ((repeat ((conv => whnf); first | refine brT ?_ | refine brF ?_)); conv => whnf)
  refine loop_ruleR (α := Nat) [.old 0, .nil 3 1] (fun k => [(13, .int .i64 (k : Int)), (7, .hs 1 ((othersTo keep p us k).map intLV).length)]) (fun k => [.box (famLV ps us), .arr 3 1 ((othersTo keep p us k).map intLV)])
    (fun k => us.length - k) (fun k => k ≤ us.length) 0 (Nat.zero_le _) ?_ ?_
  · refine ⟨?_, ⟨rfl, rfl, rfl, rfl, trivial⟩, rfl⟩
    repeat ((conv => whnf); first | refine ⟨rfl, rfl, ?_⟩)
    trivial
  intro k hk0
  ((repeat ((conv => whnf); first | refine brT ?_ | refine brF ?_)); conv => whnf)
  (refine ⟨fun h1 => ?_, fun h1 => ?_⟩ <;> rw [h1])
  · have hlt : k < us.length := by rw [ltI_t] at h1; simp at h1; omega
    have hs := othersTo_succ keep p us hlt
    have hl := othersTo_len keep p us k
    have hl1 := othersTo_len keep p us (k + 1)
    have e : LV.int .i64 (IntKind.i64.wrap ((k : Int) + 1)) = LV.int .i64 ((k + 1 : Nat) : Int) := step_i hlt (by unfold Go.maxLen; omega)
    ((repeat ((conv => whnf); first | refine brT ?_ | refine brF ?_)); conv => whnf)
    refine ⟨k, us[k].lv, rfl, by simp [hlt], rfl, ?_⟩
    ((repeat ((conv => whnf); first | refine brT ?_ | refine brF ?_)); conv => whnf)
    refine ⟨_, hk us[k], ?_⟩
    generalize us[k] = u at hs
    ((repeat ((conv => whnf); first | refine brT ?_ | refine brF ?_)); conv => whnf)
    (refine ⟨fun h2 => ?_, fun h2 => ?_⟩ <;> rw [h2])
    · rw [notB_t] at h2
      rw [show otherL keep p u = [] by unfold otherL; rw [h2], List.append_nil] at hs
      ((repeat ((conv => whnf); first | refine brT ?_ | refine brF ?_)); conv => whnf)
      refine round_endR [.old 0, .old 1] (k + 1) hlt (by omega) ⟨?_, ⟨rfl, rfl, rfl, congrArg (Blk.arr 3 1) (by rw [hs]), trivial⟩, rfl⟩
      have e3 : LV.hs 1 ((othersTo keep p us k).map intLV).length = LV.hs 1 ((othersTo keep p us (k + 1)).map intLV).length := by rw [hs]
      repeat ((conv => whnf); first | refine ⟨rfl, e, ?_⟩ | refine ⟨rfl, e3, ?_⟩ | refine ⟨rfl, rfl, ?_⟩)
      trivial
    rw [notB_f] at h2
    ((repeat ((conv => whnf); first | refine brT ?_ | refine brF ?_)); conv => whnf)
    (refine ⟨fun h3 => ?_, fun h3 => ?_⟩ <;> rw [h3])
    · rw [show otherL keep p u = [u.wife] by unfold otherL; rw [h2, h3]] at hs
      have e2 : ((othersTo keep p us k).map intLV ++ [LV.int .i64 u.wife]) = (othersTo keep p us (k + 1)).map intLV := by rw [hs, List.map_append]; rfl
      have e3 : LV.hs 1 ((othersTo keep p us k).map intLV ++ [LV.int .i64 u.wife]).length = LV.hs 1 ((othersTo keep p us (k + 1)).map intLV).length := by rw [e2]
      ((repeat ((conv => whnf); first | refine brT ?_ | refine brF ?_)); conv => whnf)
      refine ⟨rfl, rfl, ?_, ?_, ?_⟩
      · rw [e2]; unfold Go.maxLen; simp; omega
      · rw [e2]; simp; omega
      ((repeat ((conv => whnf); first | refine brT ?_ | refine brF ?_)); conv => whnf)
      refine round_endR [.old 0, .old 4] (k + 1) hlt (by omega) ⟨?_, ⟨rfl, rfl, rfl, congrArg (Blk.arr 3 1) e2, trivial⟩, rfl⟩
      repeat ((conv => whnf); first | refine ⟨rfl, e, ?_⟩ | refine ⟨rfl, e3, ?_⟩ | refine ⟨rfl, rfl, ?_⟩)
      trivial
    ((repeat ((conv => whnf); first | refine brT ?_ | refine brF ?_)); conv => whnf)
    (refine ⟨fun h4 => ?_, fun h4 => ?_⟩ <;> rw [h4])
    · rw [show otherL keep p u = [u.husband] by unfold otherL; rw [h2, h3, h4]] at hs
      have e2 : ((othersTo keep p us k).map intLV ++ [LV.int .i64 u.husband]) = (othersTo keep p us (k + 1)).map intLV := by rw [hs, List.map_append]; rfl
      have e3 : LV.hs 1 ((othersTo keep p us k).map intLV ++ [LV.int .i64 u.husband]).length = LV.hs 1 ((othersTo keep p us (k + 1)).map intLV).length := by rw [e2]
      ((repeat ((conv => whnf); first | refine brT ?_ | refine brF ?_)); conv => whnf)
      refine ⟨rfl, rfl, ?_, ?_, ?_⟩
      · rw [e2]; unfold Go.maxLen; simp; omega
      · rw [e2]; simp; omega
      ((repeat ((conv => whnf); first | refine brT ?_ | refine brF ?_)); conv => whnf)
      refine round_endR [.old 0, .old 4] (k + 1) hlt (by omega) ⟨?_, ⟨rfl, rfl, rfl, congrArg (Blk.arr 3 1) e2, trivial⟩, rfl⟩
      repeat ((conv => whnf); first | refine ⟨rfl, e, ?_⟩ | refine ⟨rfl, e3, ?_⟩ | refine ⟨rfl, rfl, ?_⟩)
      trivial
    · rw [show otherL keep p u = [] by unfold otherL; rw [h2, h3, h4], List.append_nil] at hs
      ((repeat ((conv => whnf); first | refine brT ?_ | refine brF ?_)); conv => whnf)
      refine round_endR [.old 0, .old 1] (k + 1) hlt (by omega) ⟨?_, ⟨rfl, rfl, rfl, congrArg (Blk.arr 3 1) (by rw [hs]), trivial⟩, rfl⟩
      have e3 : LV.hs 1 ((othersTo keep p us k).map intLV).length = LV.hs 1 ((othersTo keep p us (k + 1)).map intLV).length := by rw [hs]
      repeat ((conv => whnf); first | refine ⟨rfl, e, ?_⟩ | refine ⟨rfl, e3, ?_⟩ | refine ⟨rfl, rfl, ?_⟩)
      trivial
  · have h3 : k = us.length := by rw [ltI_f] at h1; simp at h1; omega
    subst h3
    ((repeat ((conv => whnf); first | refine brT ?_ | refine brF ?_)); conv => whnf)
    exact ⟨[.hs 0 ((othersTo keep p us us.length).map intLV).length], rfl, rfl, .inr ⟨[.old 1], ⟨rfl, rfl, trivial⟩, ⟨rfl, rfl, trivial⟩, rfl⟩⟩
end Go.Proofs.Ytikbpfcehgmmnaa
