/- Contracts of functions of the program and of its model, told over readings. -/
import Derived.Test.YtfdjeflnjciloaaV1
namespace Go.Proofs.Ytfdjeflnjciloaa
open Go.Lg
set_option maxHeartbeats 800000
set_option maxRecDepth 10000
set_option linter.unusedVariables false
set_option linter.unusedSimpArgs false

/-! UnionEnd -/
def endLV : Option Int → LV
  | some y => .tup [.int .i64 y, .bool true]
  | none => .tup [.int .i64 0, .bool false]
def endOf2 (a b : Int) : Option Int := match eqI a (-1) with
  | true => (match eqI b (-1) with | true => none | false => some b)
  | false => (match eqI b (-1) with | true => some a | false => some (minI a b))
def endO (ps : List Per) (u : Uni) : Option Int := match eqI u.till (-1) with
  | false => some u.till
  | true => match ps[u.husband.toNat]?, ps[u.wife.toNat]? with
    | some x, some y => endOf2 x.died y.died
    | _, _ => none

/-- The union's two persons are of the family. -/
structure UniIn (ps : List Per) (u : Uni) : Prop where
  m0 : 0 ≤ u.husband
  ml : u.husband.toNat < ps.length
  w0 : 0 ≤ u.wife
  wl : u.wife.toNat < ps.length
/-- Years are years. -/
structure UniYears (ps : List Per) (u : Uni) (h : UniIn ps u) : Prop where
  t : u.till = -1 ∨ 0 ≤ u.till
  m : (ps[u.husband.toNat]'h.ml).died = -1 ∨ 0 ≤ (ps[u.husband.toNat]'h.ml).died
  w : (ps[u.wife.toNat]'h.wl).died = -1 ∨ 0 ≤ (ps[u.wife.toNat]'h.wl).died

theorem uni_of {ps : List Per} {us : List Uni} (h : famOk ps us = true) {k : Nat} (hk : k < us.length) : ∃ h : UniIn ps us[k], UniYears ps us[k] h := by
  obtain ⟨_, _, hp, hu, _⟩ := famOk_parts h
  have hok : unionOk ps (us.take k) us[k] = true := by
    cases e : unionOk ps (us.take k) us[k] with
    | true => rfl
    | false => rw [unionsTo_no hk hk e] at hu; cases hu
  unfold unionOk at hok
  simp only [Bool.and_eq_true] at hok
  obtain ⟨⟨h1, h2⟩, ⟨h3, h4⟩, h5, h6⟩ := hok
  obtain ⟨m0, ml, _⟩ := ofSex_lt h1
  obtain ⟨w0, wl, _⟩ := ofSex_lt h2
  refine ⟨⟨m0, ml, w0, wl⟩, ?_⟩
  have pm := personOk_spec (personsTo_get hp ml ml)
  have pw := personOk_spec (personsTo_get hp wl wl)
  unfold bothFit at h6
  rw [List.getElem?_eq_getElem ml, List.getElem?_eq_getElem wl] at h6
  simp only [fits, Bool.and_eq_true, leI_t] at h6
  unfold endYear at h4
  simp only [Bool.or_eq_true, Bool.and_eq_true, eqI_t, leI_t] at h4
  refine ⟨?_, ?_, ?_⟩
  · omega
  · omega
  · omega

theorem endOf2_years {a b : Int} (ha : a = -1 ∨ 0 ≤ a) (hb : b = -1 ∨ 0 ≤ b) : endOf2 a b = (if a < 0 ∧ b < 0 then none else some (if a < 0 ∨ (0 ≤ b ∧ b < a) then b else a)) := by
  unfold endOf2 minI
  grind [eqI_t, eqI_f]

def unionEndO (ps : List Per) (us : List Uni) (k : Int) : Option Int := match (leI 0 k && (ltI k (us.length : Int) && famOk ps us)) with
  | true => (match us[k.toNat]? with | some u => endO ps u | none => none)
  | false => none
end Go.Proofs.Ytfdjeflnjciloaa