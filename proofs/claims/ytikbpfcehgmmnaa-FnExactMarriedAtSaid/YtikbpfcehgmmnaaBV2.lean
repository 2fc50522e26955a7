/- Contracts of functions of the program and of its model, told over readings. -/
import Derived.Test.YtikbpfcehgmmnaaBV1
namespace Go.Proofs.Ytikbpfcehgmmnaa
open Go.Lg
set_option maxHeartbeats 800000
set_option maxRecDepth 10000
set_option linter.unusedVariables false
set_option linter.unusedSimpArgs false

/-! UnionEnd -/
def endLV : Option Int → LV
  | some y => .tup [.int .i64 y, .bool true]
  | none => .tup [.int .i64 0, .bool false]
def endOf2 (a b : Int) : Option Int := match eqI a (-1) with
  | true => (match eqI b (-1) with | true => none | false => some b)
  | false => (match eqI b (-1) with | true => some a | false => some (minI a b))
def endO (ps : List Per) (u : Uni) : Option Int := match eqI u.till (-1) with
  | false => some u.till
  | true => match ps[u.husband.toNat]?, ps[u.wife.toNat]? with
    | some x, some y => endOf2 x.died y.died
    | _, _ => none

/-- The union's two persons are of the family. -/
structure UniIn (ps : List Per) (u : Uni) : Prop where
  m0 : 0 ≤ u.husband
  ml : u.husband.toNat < ps.length
  w0 : 0 ≤ u.wife
  wl : u.wife.toNat < ps.length
/-- Years are years. -/
structure UniYears (ps : List Per) (u : Uni) (h : UniIn ps u) : Prop where
  t : u.till = -1 ∨ 0 ≤ u.till
  m : (ps[u.husband.toNat]'h.ml).died = -1 ∨ 0 ≤ (ps[u.husband.toNat]'h.ml).died
  w : (ps[u.wife.toNat]'h.wl).died = -1 ∨ 0 ≤ (ps[u.wife.toNat]'h.wl).died

theorem uni_of {ps : List Per} {us : List Uni} (h : famOk ps us = true) {k : Nat} (hk : k < us.length) : ∃ h : UniIn ps us[k], UniYears ps us[k] h := by
  obtain ⟨_, _, hp, hu, _⟩ := famOk_parts h
  have hok : unionOk ps (us.take k) us[k] = true := by
    cases e : unionOk ps (us.take k) us[k] with
    | true => rfl
    | false => rw [unionsTo_no hk hk e] at hu; cases hu
  unfold unionOk at hok
  simp only [Bool.and_eq_true] at hok
  obtain ⟨⟨h1, h2⟩, ⟨h3, h4⟩, h5, h6⟩ := hok
  obtain ⟨m0, ml, _⟩ := ofSex_lt h1
  obtain ⟨w0, wl, _⟩ := ofSex_lt h2
  refine ⟨⟨m0, ml, w0, wl⟩, ?_⟩
  have pm := personOk_spec (personsTo_get hp ml ml)
  have pw := personOk_spec (personsTo_get hp wl wl)
  unfold bothFit at h6
  rw [List.getElem?_eq_getElem ml, List.getElem?_eq_getElem wl] at h6
  simp only [fits, Bool.and_eq_true, leI_t] at h6
  unfold endYear at h4
  simp only [Bool.or_eq_true, Bool.and_eq_true, eqI_t, leI_t] at h4
  refine ⟨?_, ?_, ?_⟩
  · omega
  · omega
  · omega

theorem endOf_spec (ps : List Per) (us : List Uni) (u : Uni) (h : UniIn ps u) : FSpec env.P 109 [famLV ps us, u.lv] (endLV (endO ps u)) := by
  refine FSpec_of_code env_ok (fn := Try.f109) Try.func109 rfl Try.call109 _ _ ?_
  have he : endO ps u = match eqI u.till (-1) with | false => some u.till | true => endOf2 (ps[u.husband.toNat]'h.ml).died (ps[u.wife.toNat]'h.wl).died := by
    unfold endO
    rw [List.getElem?_eq_getElem h.ml, List.getElem?_eq_getElem h.wl]
  obtain ⟨m0, ml, w0, wl⟩ := h
  ((repeat ((conv => whnf); first | refine brT ?_ | refine brF ?_)); conv => whnf)
  (refine ⟨fun h1 => ?_, fun h1 => ?_⟩ <;> rw [h1])
  · rw [notB_t] at h1
    rw [h1] at he
    rw [he]
    ((repeat ((conv => whnf); first | refine brT ?_ | refine brF ?_)); conv => whnf)
    refine ⟨rfl, rfl, ?_⟩
    ((repeat ((conv => whnf); first | refine brT ?_ | refine brF ?_)); conv => whnf)
    exact ⟨rfl, List.nodup_nil⟩
  · rw [notB_f] at h1
    rw [h1] at he
    rw [he]
    ((repeat ((conv => whnf); first | refine brT ?_ | refine brF ?_)); conv => whnf)
    refine ⟨by kernel_rfl, ?_⟩
    ((repeat ((conv => whnf); first | refine brT ?_ | refine brF ?_)); conv => whnf)
    refine ⟨u.husband.toNat, ps[u.husband.toNat].lv, by omega, by simp [ml], rfl, ?_⟩
    ((repeat ((conv => whnf); first | refine brT ?_ | refine brF ?_)); conv => whnf)
    refine ⟨u.wife.toNat, ps[u.wife.toNat].lv, by omega, by simp [wl], rfl, ?_⟩
    generalize ps[u.husband.toNat] = x
    generalize ps[u.wife.toNat] = y
    ((repeat ((conv => whnf); first | refine brT ?_ | refine brF ?_)); conv => whnf)
    (refine ⟨fun g1 => ?_, fun g1 => ?_⟩ <;> rw [g1])
    · ((repeat ((conv => whnf); first | refine brT ?_ | refine brF ?_)); conv => whnf)
      (refine ⟨fun g2 => ?_, fun g2 => ?_⟩ <;> rw [g2])
      · have e : endOf2 x.died y.died = none := by simp [endOf2, g1, g2]
        rw [e]
        ((repeat ((conv => whnf); first | refine brT ?_ | refine brF ?_)); conv => whnf)
        refine ⟨rfl, rfl, ?_⟩
        ((repeat ((conv => whnf); first | refine brT ?_ | refine brF ?_)); conv => whnf)
        exact ⟨rfl, List.nodup_nil⟩
      · have e : endOf2 x.died y.died = some y.died := by simp [endOf2, g1, g2]
        rw [e]
        ((repeat ((conv => whnf); first | refine brT ?_ | refine brF ?_)); conv => whnf)
        rw [g1]
        ((repeat ((conv => whnf); first | refine brT ?_ | refine brF ?_)); conv => whnf)
        refine ⟨rfl, rfl, ?_⟩
        ((repeat ((conv => whnf); first | refine brT ?_ | refine brF ?_)); conv => whnf)
        exact ⟨rfl, List.nodup_nil⟩
    · ((repeat ((conv => whnf); first | refine brT ?_ | refine brF ?_)); conv => whnf)
      rw [g1]
      ((repeat ((conv => whnf); first | refine brT ?_ | refine brF ?_)); conv => whnf)
      (refine ⟨fun g2 => ?_, fun g2 => ?_⟩ <;> rw [g2])
      · have e : endOf2 x.died y.died = some x.died := by simp [endOf2, g1, g2]
        rw [e]
        ((repeat ((conv => whnf); first | refine brT ?_ | refine brF ?_)); conv => whnf)
        refine ⟨rfl, rfl, ?_⟩
        ((repeat ((conv => whnf); first | refine brT ?_ | refine brF ?_)); conv => whnf)
        exact ⟨rfl, List.nodup_nil⟩
      · have e : endOf2 x.died y.died = some (minI x.died y.died) := by simp [endOf2, g1, g2]
        rw [e]
        ((repeat ((conv => whnf); first | refine brT ?_ | refine brF ?_)); conv => whnf)
        refine ⟨rfl, rfl, ?_⟩
        ((repeat ((conv => whnf); first | refine brT ?_ | refine brF ?_)); conv => whnf)
        exact ⟨rfl, List.nodup_nil⟩

theorem endOf2_years {a b : Int} (ha : a = -1 ∨ 0 ≤ a) (hb : b = -1 ∨ 0 ≤ b) : endOf2 a b = (if a < 0 ∧ b < 0 then none else some (if a < 0 ∨ (0 ≤ b ∧ b < a) then b else a)) := by
  unfold endOf2 minI
  grind [eqI_t, eqI_f]

theorem l1End_spec (ps : List Per) (us : List Uni) (u : Uni) (h : UniIn ps u) (hy : UniYears ps u h) : FSpec env.P 108 [famLV ps us, u.lv] (endLV (endO ps u)) := by
  refine FSpec_of_code env_ok (fn := Try.f108) Try.func108 rfl Try.call108 _ _ ?_
  have he : endO ps u = match eqI u.till (-1) with | false => some u.till | true => endOf2 (ps[u.husband.toNat]'h.ml).died (ps[u.wife.toNat]'h.wl).died := by
    unfold endO
    rw [List.getElem?_eq_getElem h.ml, List.getElem?_eq_getElem h.wl]
  obtain ⟨ht, hm, hw⟩ := hy
  obtain ⟨m0, ml, w0, wl⟩ := h
  rw [endOf2_years hm hw] at he
  ((repeat ((conv => whnf); first | refine brT ?_ | refine brF ?_)); conv => whnf)
  (refine ⟨fun h1 => ?_, fun h1 => ?_⟩ <;> rw [h1])
  · have : eqI u.till (-1) = false := by rw [eqI_f]; rw [leI_t] at h1; omega
    rw [this] at he
    rw [he]
    ((repeat ((conv => whnf); first | refine brT ?_ | refine brF ?_)); conv => whnf)
    refine ⟨rfl, rfl, ?_⟩
    ((repeat ((conv => whnf); first | refine brT ?_ | refine brF ?_)); conv => whnf)
    exact ⟨rfl, List.nodup_nil⟩
  · have : eqI u.till (-1) = true := by rw [eqI_t]; rw [leI_f] at h1; omega
    rw [this] at he
    rw [he]
    ((repeat ((conv => whnf); first | refine brT ?_ | refine brF ?_)); conv => whnf)
    refine ⟨u.husband.toNat, ps[u.husband.toNat].lv, by omega, by simp [ml], rfl, ?_⟩
    ((repeat ((conv => whnf); first | refine brT ?_ | refine brF ?_)); conv => whnf)
    refine ⟨u.wife.toNat, ps[u.wife.toNat].lv, by omega, by simp [wl], rfl, ?_⟩
    generalize ps[u.husband.toNat] = x at hm ⊢
    generalize ps[u.wife.toNat] = y at hw ⊢
    ((repeat' (((repeat ((conv => whnf); first | refine brT ?_ | refine brF ?_)); conv => whnf); (refine And.intro ?_ ?_ <;> (intro h; rw [h]; revert h; intro _)))); all_goals ((repeat ((conv => whnf); first | refine brT ?_ | refine brF ?_)); conv => whnf))
    all_goals
      simp only [ltI_t, ltI_f, leI_t, leI_f] at *
      by_cases c1 : x.died < 0 ∧ y.died < 0
      · first
          | (exfalso; omega)
          | (rw [if_pos c1]
             ((repeat ((conv => whnf); first | refine brT ?_ | refine brF ?_)); conv => whnf)
             refine ⟨rfl, rfl, ?_⟩
             ((repeat ((conv => whnf); first | refine brT ?_ | refine brF ?_)); conv => whnf)
             exact ⟨rfl, List.nodup_nil⟩)
      · rw [if_neg c1]
        by_cases c2 : x.died < 0 ∨ (0 ≤ y.died ∧ y.died < x.died)
        · first
            | (exfalso; omega)
            | (rw [if_pos c2]
               ((repeat ((conv => whnf); first | refine brT ?_ | refine brF ?_)); conv => whnf)
               refine ⟨rfl, rfl, ?_⟩
               ((repeat ((conv => whnf); first | refine brT ?_ | refine brF ?_)); conv => whnf)
               exact ⟨rfl, List.nodup_nil⟩)
        · first
            | (exfalso; omega)
            | (rw [if_neg c2]
               ((repeat ((conv => whnf); first | refine brT ?_ | refine brF ?_)); conv => whnf)
               refine ⟨rfl, rfl, ?_⟩
               ((repeat ((conv => whnf); first | refine brT ?_ | refine brF ?_)); conv => whnf)
               exact ⟨rfl, List.nodup_nil⟩)

def unionEndO (ps : List Per) (us : List Uni) (k : Int) : Option Int := match (leI 0 k && (ltI k (us.length : Int) && famOk ps us)) with
  | true => (match us[k.toNat]? with | some u => endO ps u | none => none)
  | false => none
theorem unionEnd_impl (ps : List Per) (us : List Uni) (k : Int) : FSpec env.P 53 [famLV ps us, .int .i64 k] (endLV (unionEndO ps us k)) := by
  refine FSpec_of_code env_ok (fn := Try.f53) Try.func53 rfl Try.call53 _ _ ?_
  have no : (leI 0 k && (ltI k (us.length : Int) && famOk ps us)) = false → unionEndO ps us k = none := fun h => by unfold unionEndO; rw [h]
  ((repeat ((conv => whnf); first | refine brT ?_ | refine brF ?_)); conv => whnf)
  (refine ⟨fun h1 => ?_, fun h1 => ?_⟩ <;> rw [h1])
  · rw [no (by have : leI 0 k = false := by { rw [leI_f]; rw [ltI_t] at h1; exact h1 }; simp [this])]
    ((repeat ((conv => whnf); first | refine brT ?_ | refine brF ?_)); conv => whnf)
    refine ⟨rfl, rfl, ?_⟩
    ((repeat ((conv => whnf); first | refine brT ?_ | refine brF ?_)); conv => whnf)
    exact ⟨rfl, List.nodup_nil⟩
  rw [ltI_f] at h1
  ((repeat ((conv => whnf); first | refine brT ?_ | refine brF ?_)); conv => whnf)
  intro hn
  ((repeat ((conv => whnf); first | refine brT ?_ | refine brF ?_)); conv => whnf)
  (refine ⟨fun h2 => ?_, fun h2 => ?_⟩ <;> rw [h2])
  · rw [no (by have : ltI k (us.length : Int) = false := by { rw [ltI_f]; rw [leI_t] at h2; simpa using h2 }; simp [this])]
    ((repeat ((conv => whnf); first | refine brT ?_ | refine brF ?_)); conv => whnf)
    refine ⟨rfl, rfl, ?_⟩
    ((repeat ((conv => whnf); first | refine brT ?_ | refine brF ?_)); conv => whnf)
    exact ⟨rfl, List.nodup_nil⟩
  have hlt : k.toNat < us.length := by rw [leI_f] at h2; simp at h2; omega
  ((repeat ((conv => whnf); first | refine brT ?_ | refine brF ?_)); conv => whnf)
  refine ⟨_, isFamily_impl ps us, ?_⟩
  ((repeat ((conv => whnf); first | refine brT ?_ | refine brF ?_)); conv => whnf)
  (refine ⟨fun h3 => ?_, fun h3 => ?_⟩ <;> rw [h3])
  · rw [notB_t] at h3
    rw [no (by simp [h3])]
    ((repeat ((conv => whnf); first | refine brT ?_ | refine brF ?_)); conv => whnf)
    refine ⟨rfl, rfl, ?_⟩
    ((repeat ((conv => whnf); first | refine brT ?_ | refine brF ?_)); conv => whnf)
    exact ⟨rfl, List.nodup_nil⟩
  rw [notB_f] at h3
  have he : unionEndO ps us k = endO ps us[k.toNat] := by
    unfold unionEndO
    rw [show leI 0 k = true from leI_t.2 h1, show ltI k (us.length : Int) = true from ltI_t.2 (by omega), h3, List.getElem?_eq_getElem hlt]
    rfl
  obtain ⟨hin, hy⟩ := uni_of h3 hlt
  have hs := endOf_spec ps us us[k.toNat] hin
  rw [he]
  ((repeat ((conv => whnf); first | refine brT ?_ | refine brF ?_)); conv => whnf)
  refine ⟨by kernel_rfl, ?_⟩
  ((repeat ((conv => whnf); first | refine brT ?_ | refine brF ?_)); conv => whnf)
  refine ⟨k.toNat, us[k.toNat].lv, by omega, by simp [hlt], rfl, ?_⟩
  ((repeat ((conv => whnf); first | refine brT ?_ | refine brF ?_)); conv => whnf)
  refine ⟨_, hs, ?_⟩
  cases endO ps us[k.toNat] <;>
  · ((repeat ((conv => whnf); first | refine brT ?_ | refine brF ?_)); conv => whnf)
    refine ⟨rfl, rfl, ?_⟩
    ((repeat ((conv => whnf); first | refine brT ?_ | refine brF ?_)); conv => whnf)
    exact ⟨rfl, List.nodup_nil⟩
theorem unionEnd_spec (ps : List Per) (us : List Uni) (k : Int) : FSpec env.P 52 [famLV ps us, .int .i64 k] (endLV (unionEndO ps us k)) := by
  refine FSpec_of_code env_ok (fn := Try.f52) Try.func52 rfl Try.call52 _ _ ?_
  have no : (leI 0 k && (ltI k (us.length : Int) && famOk ps us)) = false → unionEndO ps us k = none := fun h => by unfold unionEndO; rw [h]
  ((repeat ((conv => whnf); first | refine brT ?_ | refine brF ?_)); conv => whnf)
  (refine ⟨fun h1 => ?_, fun h1 => ?_⟩ <;> rw [h1])
  · rw [no (by have : leI 0 k = false := by { rw [leI_f]; rw [ltI_t] at h1; exact h1 }; simp [this])]
    ((repeat ((conv => whnf); first | refine brT ?_ | refine brF ?_)); conv => whnf)
    refine ⟨rfl, rfl, ?_⟩
    ((repeat ((conv => whnf); first | refine brT ?_ | refine brF ?_)); conv => whnf)
    exact ⟨rfl, List.nodup_nil⟩
  rw [ltI_f] at h1
  ((repeat ((conv => whnf); first | refine brT ?_ | refine brF ?_)); conv => whnf)
  intro hn
  ((repeat ((conv => whnf); first | refine brT ?_ | refine brF ?_)); conv => whnf)
  (refine ⟨fun h2 => ?_, fun h2 => ?_⟩ <;> rw [h2])
  · rw [no (by have : ltI k (us.length : Int) = false := by { rw [ltI_f]; rw [leI_t] at h2; simpa using h2 }; simp [this])]
    ((repeat ((conv => whnf); first | refine brT ?_ | refine brF ?_)); conv => whnf)
    refine ⟨rfl, rfl, ?_⟩
    ((repeat ((conv => whnf); first | refine brT ?_ | refine brF ?_)); conv => whnf)
    exact ⟨rfl, List.nodup_nil⟩
  have hlt : k.toNat < us.length := by rw [leI_f] at h2; simp at h2; omega
  ((repeat ((conv => whnf); first | refine brT ?_ | refine brF ?_)); conv => whnf)
  refine ⟨_, isFamily_spec ps us, ?_⟩
  ((repeat ((conv => whnf); first | refine brT ?_ | refine brF ?_)); conv => whnf)
  (refine ⟨fun h3 => ?_, fun h3 => ?_⟩ <;> rw [h3])
  · rw [notB_t] at h3
    rw [no (by simp [h3])]
    ((repeat ((conv => whnf); first | refine brT ?_ | refine brF ?_)); conv => whnf)
    refine ⟨rfl, rfl, ?_⟩
    ((repeat ((conv => whnf); first | refine brT ?_ | refine brF ?_)); conv => whnf)
    exact ⟨rfl, List.nodup_nil⟩
  rw [notB_f] at h3
  have he : unionEndO ps us k = endO ps us[k.toNat] := by
    unfold unionEndO
    rw [show leI 0 k = true from leI_t.2 h1, show ltI k (us.length : Int) = true from ltI_t.2 (by omega), h3, List.getElem?_eq_getElem hlt]
    rfl
  obtain ⟨hin, hy⟩ := uni_of h3 hlt
  have hs := l1End_spec ps us us[k.toNat] hin hy
  rw [he]
  ((repeat ((conv => whnf); first | refine brT ?_ | refine brF ?_)); conv => whnf)
  refine ⟨by kernel_rfl, ?_⟩
  ((repeat ((conv => whnf); first | refine brT ?_ | refine brF ?_)); conv => whnf)
  refine ⟨k.toNat, us[k.toNat].lv, by omega, by simp [hlt], rfl, ?_⟩
  ((repeat ((conv => whnf); first | refine brT ?_ | refine brF ?_)); conv => whnf)
  refine ⟨_, hs, ?_⟩
  cases endO ps us[k.toNat] <;>
  · ((repeat ((conv => whnf); first | refine brT ?_ | refine brF ?_)); conv => whnf)
    refine ⟨rfl, rfl, ?_⟩
    ((repeat ((conv => whnf); first | refine brT ?_ | refine brF ?_)); conv => whnf)
    exact ⟨rfl, List.nodup_nil⟩

theorem law_unionEnd (ps : List Per) (us : List Uni) (k : Int) (hf : FamOK ps us) : FSpec env.P 15 [famLV ps us, .int .i64 k] (.bool true) := by
  refine FSpec_of_code env_ok (fn := Try.f15) Try.func15 rfl Try.call15 _ _ ?_
  ((repeat ((conv => whnf); first | refine brT ?_ | refine brF ?_)); conv => whnf)
  refine ⟨_, szFamily_spec ps us _, ?_⟩
  ((repeat ((conv => whnf); first | refine brT ?_ | refine brF ?_)); conv => whnf)
  (refine ⟨fun h => ?_, fun h => ?_⟩ <;> rw [h])
  · ((repeat ((conv => whnf); first | refine brT ?_ | refine brF ?_)); conv => whnf); exact fin rfl
  rw [ltI_f] at h
  obtain ⟨p1, u1, s1⟩ := szFam_ok (by omega) (by omega) hf h
  ((repeat ((conv => whnf); first | refine brT ?_ | refine brF ?_)); conv => whnf)
  refine ⟨_, toFamily_spec ps us p1 u1, ?_⟩
  ((repeat ((conv => whnf); first | refine brT ?_ | refine brF ?_)); conv => whnf)
  refine ⟨_, unionEnd_spec ps us k, ?_⟩
  have himp := unionEnd_impl ps us k
  cases hfo : unionEndO ps us k <;> rw [hfo] at himp
  · ((repeat' (((repeat ((conv => whnf); first | refine brT ?_ | refine brF ?_)); conv => whnf); first | (refine And.intro ?_ ?_ <;> (intro h; rw [h]; revert h; intro _)) | (refine And.intro (a := drawB _ _ = true) (by kernel_rfl) ?_) | (refine Exists.intro _ (And.intro (toFamily_spec ps us p1 u1) ?_)) | (refine Exists.intro _ (And.intro (himp) ?_)) | (refine Exists.intro _ (And.intro (eqFamily_spec ps ps us us) ?_)))); all_goals ((repeat ((conv => whnf); first | refine brT ?_ | refine brF ?_)); conv => whnf))
    all_goals (refine fin ?_; simp_all [notB, eqI_refl, eqB, eqFam_refl])
  · ((repeat' (((repeat ((conv => whnf); first | refine brT ?_ | refine brF ?_)); conv => whnf); first | (refine And.intro ?_ ?_ <;> (intro h; rw [h]; revert h; intro _)) | (refine And.intro (a := drawB _ _ = true) (by kernel_rfl) ?_) | (refine Exists.intro _ (And.intro (toFamily_spec ps us p1 u1) ?_)) | (refine Exists.intro _ (And.intro (himp) ?_)) | (refine Exists.intro _ (And.intro (eqFamily_spec ps ps us us) ?_)))); all_goals ((repeat ((conv => whnf); first | refine brT ?_ | refine brF ?_)); conv => whnf))
    all_goals (refine fin ?_; simp_all [notB, eqI_refl, eqB, eqFam_refl])
end Go.Proofs.Ytikbpfcehgmmnaa
