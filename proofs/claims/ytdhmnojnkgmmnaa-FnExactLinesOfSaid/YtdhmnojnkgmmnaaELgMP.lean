/- Maps: what their keys and elements read as, and the types of maps. -/
import Derived.Test.YtdhmnojnkgmmnaaELgB
import Derived.Maps.Keyed
import Derived.MapKept
import Derived.StringKeys
import Derived.Carry
namespace Go.Lg
variable [GI]
set_option linter.unusedSectionVars false
set_option linter.unusedVariables false
set_option linter.unusedSimpArgs false
open Go.RowKit
open Go.Maps
open Go.WideMaps (keyOf_string_mk)

/-! ### What keys and elements read as -/
def scal : LV → Bool
  | .int _ _ => true
  | .bool _ => true
  | .str _ => true
  | _ => false
theorem scal_isV {ρ : Ctx} {x : LV} {v : Value} (h : scal x = true) (k : RT ρ x v) : isV x v := by
  intro ρ'
  cases x <;> first | exact (Bool.false_ne_true h).elim | (simp only [RT, RT1, RC] at k ⊢; exact k)
theorem keyL_scal {mk : MK} {x : LV} (h : keyL mk x) : scal x = true := by
  cases mk <;> (obtain ⟨n, h⟩ := h; first | (obtain ⟨rfl, _⟩ := h; rfl) | (subst h; rfl))
theorem isV_inj (ρ : Ctx) {mk : MK} {x y : LV} {v w : Value} (hx : keyL mk x) (hy : keyL mk y) (h : isV x v) (k : isV y w) : v = w ↔ x = y := by
  have h := h ρ
  have k := k ρ
  cases mk with
  | int q =>
    obtain ⟨n, rfl, _⟩ := hx
    obtain ⟨m, rfl, _⟩ := hy
    simp only [RT1, RC] at h k
    simp at h k
    subst h; subst k
    simp
  | str =>
    obtain ⟨n, rfl⟩ := hx
    obtain ⟨m, rfl⟩ := hy
    simp only [RT1, RC] at h k
    obtain ⟨h, _⟩ := h
    obtain ⟨k, _⟩ := k
    simp at h k
    subst h; subst k
    simp

/-! ### The types of maps -/
def mpOf : List (TypeId × MK × TypeId × TypeId) → TypeId → Option (MK × TypeId × TypeId)
  | [], _ => none
  | (t', r) :: l, t => match Nat.beq t' t with | true => some r | false => mpOf l t
structure MpRow (P : Program) (t : TypeId) (mk : MK) (k e : TypeId) : Prop where
  und : P.underlying t = some (.map k e)
  key : Keyed P k
  lit : ∀ x v, keyL mk x → isV x v → ∃ l, keyOf P k v = some l
  one : ∀ inf zv, P.info? e = some inf → inf.zero = some zv → zv.oneCell' = true
def MpOK (P : Program) (M : List (TypeId × MK × TypeId × TypeId)) : Prop := ∀ t mk k e, mpOf M t = some (mk, k, e) → MpRow P t mk k e
def mpB (P : Program) (x : TypeId × MK × TypeId × TypeId) : Bool := match x with
  | (t, mk, k, e) => (match P.underlying t with | some (.map k' e') => Nat.beq k k' && Nat.beq e e' | _ => false) && (match mk, P.underlying k with | .int q, some (.int q') => decide (q = q') | .str, some .string => true | _, _ => false) &&
    (match P.info? e with | some inf => (match inf.zero with | some zv => zv.oneCell' | none => true) | none => true)
theorem MpOK_of {P : Program} {M : List (TypeId × MK × TypeId × TypeId)} (h : M.all (mpB P) = true) : MpOK P M := by
  have row : ∀ t mk k e, mpB P (t, mk, k, e) = true → MpRow P t mk k e := by
    intro t mk k e h
    simp only [mpB, Bool.and_eq_true] at h
    obtain ⟨⟨h1, h2⟩, h3⟩ := h
    have one : ∀ inf zv, P.info? e = some inf → inf.zero = some zv → zv.oneCell' = true := fun inf zv i1 i2 => by
      rw [i1] at h3
      simp only [i2] at h3
      exact h3
    have und : P.underlying t = some (.map k e) := by
      split at h1
      · rename_i k' e' hu
        simp only [Bool.and_eq_true, Nat.beq_eq] at h1
        obtain ⟨rfl, rfl⟩ := h1
        exact hu
      · cases h1
    split at h2
    · rename_i q q' hk
      obtain rfl : q = q' := by simpa using h2
      refine ⟨und, int_keyed hk, ?_, one⟩
      rintro x v ⟨n, rfl, hw⟩ hv
      have hv := hv ⟨default, fun _ => False, fun _ _ _ => False, fun _ _ _ _ => False⟩
      simp only [RT1, RC] at hv
      simp at hv
      subst hv
      exact ⟨_, keyOf_int_mk hk hw⟩
    · rename_i hk
      refine ⟨und, string_keyed hk, ?_, one⟩
      rintro x v ⟨n, rfl⟩ hv
      have hv := hv ⟨default, fun _ => False, fun _ _ _ => False, fun _ _ _ _ => False⟩
      simp only [RT1, RC] at hv
      obtain ⟨hv, hs⟩ := hv
      simp at hv
      subst hv
      exact ⟨_, keyOf_string_mk hk hs⟩
    · cases h2
  intro t mk k e he
  induction M with
  | nil => cases he
  | cons x M ih =>
    rw [List.all_cons, Bool.and_eq_true] at h
    obtain ⟨t', r⟩ := x
    simp only [mpOf] at he
    split at he
    · rename_i hb
      cases he
      obtain rfl : t' = t := Nat.eq_of_beq_eq_true hb
      exact row _ _ _ _ h.1
    · exact ih h.2 he

end Go.Lg

