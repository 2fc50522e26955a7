/- Contracts of functions of the program and of its model, told over readings. -/
import Derived.Test.YtfdjeflnjciloaaBT6
namespace Go.Proofs.Ytfdjeflnjciloaa
open Go.Lg
set_option maxHeartbeats 400000
set_option maxRecDepth 10000
set_option linter.unusedVariables false
set_option linter.unusedSimpArgs false

/-- impl.isEndYear -/
def endYear (y b : Int) : Bool := eqI y (-1) || (leI b y && leI y 9999)
theorem isEndYear_spec (y b : Int) : FSpec env.P 201 [.int .i64 y, .int .i64 b] (.bool (endYear y b)) := by
  refine FSpec_of_code env_ok (fn := Try.f201) Try.func201 rfl Try.call201 _ _ ?_
  ((repeat ((conv => whnf); first | refine brT ?_ | refine brF ?_)); conv => whnf)
  refine ⟨fun h => ?_, fun h => ?_⟩ <;> rw [h]
  · ((repeat ((conv => whnf); first | refine brT ?_ | refine brF ?_)); conv => whnf); refine fin ?_; simp [endYear, h]
  ((repeat ((conv => whnf); first | refine brT ?_ | refine brF ?_)); conv => whnf)
  refine ⟨fun h1 => ?_, fun h1 => ?_⟩ <;> rw [h1]
  · ((repeat ((conv => whnf); first | refine brT ?_ | refine brF ?_)); conv => whnf); refine fin ?_; simp [endYear, h, h1]
  · ((repeat ((conv => whnf); first | refine brT ?_ | refine brF ?_)); conv => whnf); refine fin ?_; simp [endYear, h, h1]

/-- impl.livedTo -/
def livedTo (p : Per) (y : Int) : Bool := eqI p.died (-1) || leI y p.died
theorem livedTo_spec (p : Per) (y : Int) : FSpec env.P 205 [p.lv, .int .i64 y] (.bool (livedTo p y)) := by
  refine FSpec_of_code env_ok (fn := Try.f205) Try.func205 rfl Try.call205 _ _ ?_
  ((repeat ((conv => whnf); first | refine brT ?_ | refine brF ?_)); conv => whnf)
  refine ⟨fun h => ?_, fun h => ?_⟩ <;> rw [h]
  · ((repeat ((conv => whnf); first | refine brT ?_ | refine brF ?_)); conv => whnf); refine fin ?_; simp [livedTo, h]
  · ((repeat ((conv => whnf); first | refine brT ?_ | refine brF ?_)); conv => whnf); refine fin ?_; simp [livedTo, h]

/-- impl.isParentOf -/
def parentOk (ps : List Per) (x sex born : Int) : Bool :=
  eqI x (-1) || (leI 0 x && match ps[x.toNat]? with
    | none => false
    | some q => eqI q.sex sex && (ltI q.born born && (match eqI sex 1 with | true => livedTo q (IntKind.i64.wrap (born - 1)) | false => livedTo q born)))
theorem isParentOf_spec (ps : List Per) (x sex born : Int) : FSpec env.P 202 [.sl (ps.map Per.lv), .int .i64 x, .int .i64 sex, .int .i64 born] (.bool (parentOk ps x sex born)) := by
  refine FSpec_of_code env_ok (fn := Try.f202) Try.func202 rfl Try.call202 _ _ ?_
  ((repeat ((conv => whnf); first | refine brT ?_ | refine brF ?_)); conv => whnf)
  refine ⟨fun h => ?_, fun h => ?_⟩ <;> rw [h]
  · ((repeat ((conv => whnf); first | refine brT ?_ | refine brF ?_)); conv => whnf); refine fin ?_; simp [parentOk, h]
  ((repeat ((conv => whnf); first | refine brT ?_ | refine brF ?_)); conv => whnf)
  refine ⟨fun h1 => ?_, fun h1 => ?_⟩ <;> rw [h1]
  · ((repeat ((conv => whnf); first | refine brT ?_ | refine brF ?_)); conv => whnf); refine fin ?_; have h2 : leI 0 x = false := by rw [leI_f]; rw [ltI_t] at h1; exact h1
    simp [parentOk, h, h2]
  rw [ltI_f] at h1
  have h0 : leI 0 x = true := by rw [leI_t]; exact h1
  ((repeat ((conv => whnf); first | refine brT ?_ | refine brF ?_)); conv => whnf)
  intro hp
  ((repeat ((conv => whnf); first | refine brT ?_ | refine brF ?_)); conv => whnf)
  refine ⟨fun h2 => ?_, fun h2 => ?_⟩ <;> rw [h2]
  · ((repeat ((conv => whnf); first | refine brT ?_ | refine brF ?_)); conv => whnf); refine fin ?_; rw [leI_t] at h2; have h3 : ps[x.toNat]? = none := by rw [List.getElem?_eq_none]; simp at h2; omega
    simp [parentOk, h, h0, h3]
  rw [leI_f] at h2
  have hlt : x.toNat < ps.length := by simp at h2; omega
  have hg : ps[x.toNat]? = some ps[x.toNat] := List.getElem?_eq_getElem hlt
  ((repeat ((conv => whnf); first | refine brT ?_ | refine brF ?_)); conv => whnf)
  refine ⟨x.toNat, ps[x.toNat].lv, by omega, by simp [hlt], rfl, ?_⟩
  ((repeat ((conv => whnf); first | refine brT ?_ | refine brF ?_)); conv => whnf)
  refine ⟨fun h4 => ?_, fun h4 => ?_⟩ <;> rw [h4]
  · ((repeat ((conv => whnf); first | refine brT ?_ | refine brF ?_)); conv => whnf); refine fin ?_; rw [notB_t] at h4; simp [parentOk, h, h0, hg, h4]
  rw [notB_f] at h4
  ((repeat ((conv => whnf); first | refine brT ?_ | refine brF ?_)); conv => whnf)
  refine ⟨fun h5 => ?_, fun h5 => ?_⟩ <;> rw [h5]
  · ((repeat ((conv => whnf); first | refine brT ?_ | refine brF ?_)); conv => whnf); refine fin ?_; have h6 : ltI ps[x.toNat].born born = false := by rw [ltI_f]; rw [leI_t] at h5; exact h5
    simp [parentOk, h, h0, hg, h4, h6]
  have h6 : ltI ps[x.toNat].born born = true := by rw [ltI_t]; rw [leI_f] at h5; exact h5
  ((repeat ((conv => whnf); first | refine brT ?_ | refine brF ?_)); conv => whnf)
  refine ⟨fun h7 => ?_, fun h7 => ?_⟩ <;> rw [h7]
  · ((repeat ((conv => whnf); first | refine brT ?_ | refine brF ?_)); conv => whnf)
    refine ⟨_, livedTo_spec ps[x.toNat] _, ?_⟩
    ((repeat ((conv => whnf); first | refine brT ?_ | refine brF ?_)); conv => whnf); refine fin ?_; simp [parentOk, h, h0, hg, h4, h6, h7]
  · ((repeat ((conv => whnf); first | refine brT ?_ | refine brF ?_)); conv => whnf)
    refine ⟨_, livedTo_spec ps[x.toNat] _, ?_⟩
    ((repeat ((conv => whnf); first | refine brT ?_ | refine brF ?_)); conv => whnf); refine fin ?_; simp [parentOk, h, h0, hg, h4, h6, h7]
end Go.Proofs.Ytfdjeflnjciloaa
