/- Contracts of functions of the program and of its model, told over readings. -/
import Derived.Test.YtikbpfcehgmmnaaBP2
namespace Go.Proofs.Ytikbpfcehgmmnaa
open Go.Lg
set_option maxHeartbeats 1600000
set_option maxRecDepth 10000
set_option linter.unusedVariables false
set_option linter.unusedSimpArgs false

def lasts (y : Int) : Option Int → Bool
  | none => true
  | some e => ltI y e
def keepAt (ps : List Per) (y : Int) (u : Uni) : Bool := leI u.since y && lasts y (endO ps u)
theorem keepAt_spec (ps : List Per) (us : List Uni) (y : Int) (u : Uni) (h : UniIn ps u) : FSpec env.P 112 [u.lv, .ref (famLV ps us), .ref (.int .i64 y)] (.bool (keepAt ps y u)) := by
  refine FSpec_of_code env_ok (fn := Try.f112) Try.func112 rfl Try.call112 _ _ ?_
  have hs := endOf_spec ps us u h
  cases he : endO ps u <;> rw [he] at hs
  · ((repeat' (((repeat ((conv => whnf); first | refine brT ?_ | refine brF ?_)); conv => whnf); first | (refine And.intro ?_ ?_ <;> (intro h; rw [h]; revert h; intro _)) | (refine And.intro (a := drawB _ _ = true) (by kernel_rfl) ?_) | (refine Exists.intro _ (And.intro (hs) ?_)))); all_goals ((repeat ((conv => whnf); first | refine brT ?_ | refine brF ?_)); conv => whnf))
    all_goals (refine fin ?_; simp_all [keepAt, lasts, notB])
  · ((repeat' (((repeat ((conv => whnf); first | refine brT ?_ | refine brF ?_)); conv => whnf); first | (refine And.intro ?_ ?_ <;> (intro h; rw [h]; revert h; intro _)) | (refine And.intro (a := drawB _ _ = true) (by kernel_rfl) ?_) | (refine Exists.intro _ (And.intro (hs) ?_)))); all_goals ((repeat ((conv => whnf); first | refine brT ?_ | refine brF ?_)); conv => whnf))
    all_goals (refine fin ?_; simp_all [keepAt, lasts, notB])

theorem partnersInAt_h (keep : Uni → Bool) (ps : List Per) (us : List Uni) (p y : Int) (hu : us.length ≤ 60)
    (hk : ∀ (k : Nat) (h : k < us.length), FSpec env.P 112 [us[k].lv, .ref (famLV ps us), .ref (.int .i64 y)] (.bool (keep us[k]))) :
    HSpec env.P 106 [famLV ps us, .int .i64 p, .clos 112 [.hp 0 0 [], .hp 1 0 []]] [.box (famLV ps us), .box (.int .i64 y)] (.hs 2 ((othersTo keep p us us.length).map intLV).length) [.box (famLV ps us), .box (.int .i64 y), .arr 3 1 ((othersTo keep p us us.length).map intLV)] := by
  refine HSpec_of_code (E := env.x [] 2) env_ok.x (fn := Try.f106) Try.func106 rfl Try.call106 _ _ _ _ ?_
  ((repeat ((conv => whnf); first | refine brT ?_ | refine brF ?_)); conv => whnf)
  intro hn
  ((repeat ((conv => whnf); first | refine brT ?_ | refine brF ?_)); conv => whnf)
  refine loop_ruleR (α := Nat) [.old 0, .old 1, .old 2, .nil 3 1] (fun k => [(13, .int .i64 (k : Int)), (7, .hs 3 ((othersTo keep p us k).map intLV).length)]) (fun k => [.box (famLV ps us), .box (.int .i64 y), .box (famLV ps us), .arr 3 1 ((othersTo keep p us k).map intLV)])
    (fun k => us.length - k) (fun k => k ≤ us.length) 0 (Nat.zero_le _) ?_ ?_
  · refine ⟨?_, ⟨rfl, rfl, rfl, rfl, rfl, rfl, rfl, rfl, trivial⟩, rfl⟩
    repeat ((conv => whnf); first | refine ⟨rfl, rfl, ?_⟩)
    trivial
  intro k hk0
  ((repeat ((conv => whnf); first | refine brT ?_ | refine brF ?_)); conv => whnf)
  (refine ⟨fun h1 => ?_, fun h1 => ?_⟩ <;> rw [h1])
  · have hlt : k < us.length := by rw [ltI_t] at h1; simp at h1; omega
    have hs := othersTo_succ keep p us hlt
    have hl := othersTo_len keep p us k
    have hl1 := othersTo_len keep p us (k + 1)
    have e : LV.int .i64 (IntKind.i64.wrap ((k : Int) + 1)) = LV.int .i64 ((k + 1 : Nat) : Int) := step_i hlt (by unfold Go.maxLen; omega)
    ((repeat ((conv => whnf); first | refine brT ?_ | refine brF ?_)); conv => whnf)
    refine ⟨k, us[k].lv, rfl, by simp [hlt], rfl, ?_⟩
    ((repeat ((conv => whnf); first | refine brT ?_ | refine brF ?_)); conv => whnf)
    refine ⟨_, hk k hlt, ?_⟩
    generalize us[k] = u at hs
    ((repeat ((conv => whnf); first | refine brT ?_ | refine brF ?_)); conv => whnf)
    (refine ⟨fun h2 => ?_, fun h2 => ?_⟩ <;> rw [h2])
    · rw [notB_t] at h2
      rw [show otherL keep p u = [] by unfold otherL; rw [h2], List.append_nil] at hs
      ((repeat ((conv => whnf); first | refine brT ?_ | refine brF ?_)); conv => whnf)
      refine round_endR [.old 0, .old 1, .old 2, .old 3] (k + 1) hlt (by omega) ⟨?_, ⟨rfl, rfl, rfl, rfl, rfl, rfl, rfl, congrArg (Blk.arr 3 1) (by rw [hs]), trivial⟩, rfl⟩
      have e3 : LV.hs 3 ((othersTo keep p us k).map intLV).length = LV.hs 3 ((othersTo keep p us (k + 1)).map intLV).length := by rw [hs]
      repeat ((conv => whnf); first | refine ⟨rfl, e, ?_⟩ | refine ⟨rfl, e3, ?_⟩ | refine ⟨rfl, rfl, ?_⟩)
      trivial
    rw [notB_f] at h2
    ((repeat ((conv => whnf); first | refine brT ?_ | refine brF ?_)); conv => whnf)
    (refine ⟨fun h3 => ?_, fun h3 => ?_⟩ <;> rw [h3])
    · rw [show otherL keep p u = [u.wife] by unfold otherL; rw [h2, h3]] at hs
      have e2 : ((othersTo keep p us k).map intLV ++ [LV.int .i64 u.wife]) = (othersTo keep p us (k + 1)).map intLV := by rw [hs, List.map_append]; rfl
      have e3 : LV.hs 3 ((othersTo keep p us k).map intLV ++ [LV.int .i64 u.wife]).length = LV.hs 3 ((othersTo keep p us (k + 1)).map intLV).length := by rw [e2]
      ((repeat ((conv => whnf); first | refine brT ?_ | refine brF ?_)); conv => whnf)
      refine ⟨rfl, rfl, ?_, ?_, ?_⟩
      · rw [e2]; unfold Go.maxLen; simp; omega
      · rw [e2]; simp; omega
      ((repeat ((conv => whnf); first | refine brT ?_ | refine brF ?_)); conv => whnf)
      refine round_endR [.old 0, .old 1, .old 2, .old 6] (k + 1) hlt (by omega) ⟨?_, ⟨rfl, rfl, rfl, rfl, rfl, rfl, rfl, congrArg (Blk.arr 3 1) e2, trivial⟩, rfl⟩
      repeat ((conv => whnf); first | refine ⟨rfl, e, ?_⟩ | refine ⟨rfl, e3, ?_⟩ | refine ⟨rfl, rfl, ?_⟩)
      trivial
    ((repeat ((conv => whnf); first | refine brT ?_ | refine brF ?_)); conv => whnf)
    (refine ⟨fun h4 => ?_, fun h4 => ?_⟩ <;> rw [h4])
    · rw [show otherL keep p u = [u.husband] by unfold otherL; rw [h2, h3, h4]] at hs
      have e2 : ((othersTo keep p us k).map intLV ++ [LV.int .i64 u.husband]) = (othersTo keep p us (k + 1)).map intLV := by rw [hs, List.map_append]; rfl
      have e3 : LV.hs 3 ((othersTo keep p us k).map intLV ++ [LV.int .i64 u.husband]).length = LV.hs 3 ((othersTo keep p us (k + 1)).map intLV).length := by rw [e2]
      ((repeat ((conv => whnf); first | refine brT ?_ | refine brF ?_)); conv => whnf)
      refine ⟨rfl, rfl, ?_, ?_, ?_⟩
      · rw [e2]; unfold Go.maxLen; simp; omega
      · rw [e2]; simp; omega
      ((repeat ((conv => whnf); first | refine brT ?_ | refine brF ?_)); conv => whnf)
      refine round_endR [.old 0, .old 1, .old 2, .old 6] (k + 1) hlt (by omega) ⟨?_, ⟨rfl, rfl, rfl, rfl, rfl, rfl, rfl, congrArg (Blk.arr 3 1) e2, trivial⟩, rfl⟩
      repeat ((conv => whnf); first | refine ⟨rfl, e, ?_⟩ | refine ⟨rfl, e3, ?_⟩ | refine ⟨rfl, rfl, ?_⟩)
      trivial
    · rw [show otherL keep p u = [] by unfold otherL; rw [h2, h3, h4], List.append_nil] at hs
      ((repeat ((conv => whnf); first | refine brT ?_ | refine brF ?_)); conv => whnf)
      refine round_endR [.old 0, .old 1, .old 2, .old 3] (k + 1) hlt (by omega) ⟨?_, ⟨rfl, rfl, rfl, rfl, rfl, rfl, rfl, congrArg (Blk.arr 3 1) (by rw [hs]), trivial⟩, rfl⟩
      have e3 : LV.hs 3 ((othersTo keep p us k).map intLV).length = LV.hs 3 ((othersTo keep p us (k + 1)).map intLV).length := by rw [hs]
      repeat ((conv => whnf); first | refine ⟨rfl, e, ?_⟩ | refine ⟨rfl, e3, ?_⟩ | refine ⟨rfl, rfl, ?_⟩)
      trivial
  · have h3 : k = us.length := by rw [ltI_f] at h1; simp at h1; omega
    subst h3
    ((repeat ((conv => whnf); first | refine brT ?_ | refine brF ?_)); conv => whnf)
    exact ⟨[.hs 2 ((othersTo keep p us us.length).map intLV).length], rfl, rfl, .inr ⟨[.old 0, .old 1, .old 3], ⟨rfl, rfl, trivial⟩, ⟨rfl, rfl, rfl, rfl, rfl, rfl, trivial⟩, rfl⟩⟩
end Go.Proofs.Ytikbpfcehgmmnaa
