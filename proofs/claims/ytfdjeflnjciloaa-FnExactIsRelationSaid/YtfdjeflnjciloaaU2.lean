/- Contracts of functions of the program and of its model, told over readings. -/
import Derived.Test.YtfdjeflnjciloaaU1
namespace Go.Proofs.Ytfdjeflnjciloaa
open Go.Lg
set_option maxHeartbeats 400000
set_option maxRecDepth 10000
set_option linter.unusedVariables false
set_option linter.unusedSimpArgs false

/-- spec.l1Parent, asked of a person of the family. -/
def parentAt (ps : List Per) (i q sex late born : Int) : Bool :=
  eqI q (-1) || (leI 0 q && (ltI q i && match ps[q.toNat]? with
    | none => false
    | some p => eqI p.sex sex && (ltI p.born born && (eqI p.died (-1) || leI born (IntKind.i64.wrap (p.died + late))))))
theorem l1Parent_spec (ps : List Per) (us : List Uni) (i : Nat) (hi : i < ps.length) (q sex late : Int) :
    FSpec env.P 198 [famLV ps us, .int .i64 (i : Int), .int .i64 q, .int .i64 sex, .int .i64 late] (.bool (parentAt ps i q sex late (ps[i]).born)) := by
  refine FSpec_of_code env_ok (fn := Try.f198) Try.func198 rfl Try.call198 _ _ ?_
  ((repeat ((conv => whnf); first | refine brT ?_ | refine brF ?_)); conv => whnf)
  (refine ⟨fun h => ?_, fun h => ?_⟩ <;> rw [h])
  · ((repeat ((conv => whnf); first | refine brT ?_ | refine brF ?_)); conv => whnf); refine fin ?_; simp [parentAt, h]
  ((repeat ((conv => whnf); first | refine brT ?_ | refine brF ?_)); conv => whnf)
  (refine ⟨fun h1 => ?_, fun h1 => ?_⟩ <;> rw [h1])
  · ((repeat ((conv => whnf); first | refine brT ?_ | refine brF ?_)); conv => whnf); refine fin ?_
    grind [parentAt, ltI_t, ltI_f, leI_t, leI_f, eqI_t, eqI_f]
  ((repeat ((conv => whnf); first | refine brT ?_ | refine brF ?_)); conv => whnf)
  (refine ⟨fun h2 => ?_, fun h2 => ?_⟩ <;> rw [h2])
  · ((repeat ((conv => whnf); first | refine brT ?_ | refine brF ?_)); conv => whnf); refine fin ?_
    grind [parentAt, ltI_t, ltI_f, leI_t, leI_f, eqI_t, eqI_f]
  have hq : 0 ≤ q ∧ q < i := by rw [ltI_f] at h1; rw [leI_f] at h2; omega
  have hlt : q.toNat < ps.length := by omega
  have hg : ps[q.toNat]? = some ps[q.toNat] := List.getElem?_eq_getElem hlt
  have hd : parentAt ps i q sex late (ps[i]).born = (eqI ps[q.toNat].sex sex && (ltI ps[q.toNat].born (ps[i]).born && (eqI ps[q.toNat].died (-1) || leI (ps[i]).born (IntKind.i64.wrap (ps[q.toNat].died + late))))) := by
    have e1 : leI 0 q = true := leI_t.2 hq.1
    have e2 : ltI q i = true := ltI_t.2 hq.2
    simp [parentAt, h, e1, e2, hg]
  ((repeat ((conv => whnf); first | refine brT ?_ | refine brF ?_)); conv => whnf)
  refine ⟨q.toNat, ps[q.toNat].lv, by omega, by simp [hlt], rfl, ?_⟩
  ((repeat ((conv => whnf); first | refine brT ?_ | refine brF ?_)); conv => whnf)
  (refine ⟨fun h3 => ?_, fun h3 => ?_⟩ <;> rw [h3])
  · ((repeat ((conv => whnf); first | refine brT ?_ | refine brF ?_)); conv => whnf); refine fin ?_
    rw [notB_t] at h3
    simp [hd, h3]
  rw [notB_f] at h3
  ((repeat ((conv => whnf); first | refine brT ?_ | refine brF ?_)); conv => whnf)
  refine ⟨q.toNat, ps[q.toNat].lv, by omega, by simp [hlt], rfl, ?_⟩
  ((repeat ((conv => whnf); first | refine brT ?_ | refine brF ?_)); conv => whnf)
  refine ⟨i, ps[i].lv, rfl, by simp [hi], rfl, ?_⟩
  ((repeat' (((repeat ((conv => whnf); first | refine brT ?_ | refine brF ?_)); conv => whnf); (refine And.intro ?_ ?_ <;> (intro h; rw [h]; revert h; intro _)))); all_goals ((repeat ((conv => whnf); first | refine brT ?_ | refine brF ?_)); conv => whnf))
  all_goals (refine fin ?_; simp [*])

def fresh (ps : List Per) (n : ByteArray) (k : Nat) : Bool := (ps.take k).all fun q => notB (eqS q.name n)
theorem fresh_succ {ps : List Per} {n : ByteArray} {k : Nat} (h : k < ps.length) : fresh ps n (k + 1) = (fresh ps n k && notB (eqS ps[k].name n)) := by
  unfold fresh
  rw [List.take_succ_eq_append_getElem h, List.all_append]
  simp
theorem fresh_no {ps : List Per} {n : ByteArray} {k i : Nat} (hi : k < i) (h : k < ps.length) (e : eqS ps[k].name n = true) : fresh ps n i = false := by
  unfold fresh
  rw [List.all_eq_false]
  refine ⟨ps[k], ?_, by simp [notB, e]⟩
  rw [List.mem_take_iff_getElem]
  exact ⟨k, by omega, rfl⟩

/-- spec.l1Person -/
def shapeOk (p : Per) : Bool := isName p.name && ((leI 1 p.sex && leI p.sex 2) && ((leI 0 p.born && leI p.born 9999) && (eqI p.died (-1) || (leI p.born p.died && leI p.died 9999))))
def personAt (ps : List Per) (i : Nat) (p : Per) : Bool :=
  shapeOk p && (fresh ps p.name i && (parentAt ps i p.father 1 1 p.born && parentAt ps i p.mother 2 0 p.born))
theorem l1Person_spec (ps : List Per) (us : List Uni) (i : Nat) (hi : i < ps.length) (hl : ps.length ≤ 40) : FSpec env.P 181 [famLV ps us, .int .i64 (i : Int)] (.bool (personAt ps i ps[i])) := by
  refine FSpec_of_code env_ok (fn := Try.f181) Try.func181 rfl Try.call181 _ _ ?_
  ((repeat ((conv => whnf); first | refine brT ?_ | refine brF ?_)); conv => whnf)
  refine ⟨i, ps[i].lv, rfl, by simp [hi], rfl, ?_⟩
  ((repeat' (((repeat ((conv => whnf); first | refine brT ?_ | refine brF ?_)); conv => whnf); first | (refine And.intro ?_ ?_ <;> (intro h; rw [h]; revert h; intro _)) | (refine And.intro (a := drawB _ _ = true) (by kernel_rfl) ?_) | (refine Exists.intro _ (And.intro (isName_spec ps[i].name) ?_)) | (refine Exists.intro _ (And.intro (l1In_spec _ _ _) ?_)))); all_goals ((repeat ((conv => whnf); first | refine brT ?_ | refine brF ?_)); conv => whnf))
  all_goals first
    | (refine fin ?_; grind [personAt, shapeOk, notB_t, notB_f])
    | skip
  all_goals
    have hs : shapeOk ps[i] = true := by grind [shapeOk, notB_t, notB_f]
    refine loop_rule (α := Nat) (fun k => [(6, .int .i64 (k : Int))]) (fun k => [.box (famLV ps us), .box ps[i].lv]) (fun k => i - k) (fun k => k ≤ i ∧ fresh ps ps[i].name k = true) 0 ⟨Nat.zero_le _, rfl⟩ ?_ ?_
    · refine ⟨?_, ⟨rfl, rfl, trivial⟩, rfl, rfl⟩
      ((repeat ((conv => whnf); refine ⟨rfl, ?_⟩)); trivial)
    rintro k ⟨hk, hf⟩
    ((repeat ((conv => whnf); first | refine brT ?_ | refine brF ?_)); conv => whnf)
    (refine ⟨fun g1 => ?_, fun g1 => ?_⟩ <;> rw [g1])
    · have hlt : k < i := by rw [ltI_t] at g1; omega
      have hkl : k < ps.length := by omega
      ((repeat ((conv => whnf); first | refine brT ?_ | refine brF ?_)); conv => whnf)
      refine ⟨by kernel_rfl, ?_⟩
      ((repeat ((conv => whnf); first | refine brT ?_ | refine brF ?_)); conv => whnf)
      refine ⟨k, ps[k].lv, rfl, by simp [hkl], rfl, ?_⟩
      ((repeat ((conv => whnf); first | refine brT ?_ | refine brF ?_)); conv => whnf)
      (refine ⟨fun g2 => ?_, fun g2 => ?_⟩ <;> rw [g2])
      · ((repeat ((conv => whnf); first | refine brT ?_ | refine brF ?_)); conv => whnf)
        refine fin ?_
        simp [personAt, fresh_no hlt hkl g2]
      · ((repeat ((conv => whnf); first | refine brT ?_ | refine brF ?_)); conv => whnf)
        refine round_end (k + 1) ⟨hlt, by rw [fresh_succ hkl, hf, g2]; simp [notB]⟩ (by omega) ⟨?_, ⟨rfl, rfl, trivial⟩, rfl, rfl⟩
        have e := step_i hlt (by unfold Go.maxLen; omega)
        ((repeat ((conv => whnf); first | refine ⟨e, ?_⟩ | refine ⟨rfl, ?_⟩)); trivial)
    · have hki : k = i := by rw [ltI_f] at g1; omega
      subst hki
      ((repeat ((conv => whnf); first | refine brT ?_ | refine brF ?_)); conv => whnf)
      refine ⟨_, l1Parent_spec ps us k hi _ _ _, ?_⟩
      ((repeat ((conv => whnf); first | refine brT ?_ | refine brF ?_)); conv => whnf)
      (refine ⟨fun g2 => ?_, fun g2 => ?_⟩ <;> rw [g2])
      · ((repeat ((conv => whnf); first | refine brT ?_ | refine brF ?_)); conv => whnf)
        refine ⟨_, l1Parent_spec ps us k hi _ _ _, ?_⟩
        ((repeat ((conv => whnf); first | refine brT ?_ | refine brF ?_)); conv => whnf)
        refine fin ?_
        simp [personAt, hs, hf, g2]
      · ((repeat ((conv => whnf); first | refine brT ?_ | refine brF ?_)); conv => whnf)
        refine fin ?_
        simp [personAt, g2]
end Go.Proofs.Ytfdjeflnjciloaa
