/- Maps: what their keys and elements read as, and the types of maps. -/
import Derived.Test.YtbiagkccgijdlaaGreatALgB
import Derived.Maps.Keyed
import Derived.MapKept
import Derived.StringKeys
import Derived.Carry
import Derived.DeepKeys5
namespace Go.Lg
variable [GI]
set_option linter.unusedSectionVars false
set_option linter.unusedVariables false
set_option linter.unusedSimpArgs false
open Go.RowKit
open Go.Maps
open Go.WideMaps (keyOf_string_mk)

/-! ### What keys and elements read as -/
def scal : LV → Bool
  | .int _ _ => true
  | .bool _ => true
  | .str _ => true
  | .st [.int _ _, .int _ _] => true
  | _ => false
theorem scal_isV {ρ : Ctx} {x : LV} {v : Value} (h : scal x = true) (k : RT ρ x v) : isV x v := by
  intro ρ'
  unfold scal at h
  split at h
  · simp only [RT, RT1, RC] at k ⊢; exact k
  · simp only [RT, RT1, RC] at k ⊢; exact k
  · simp only [RT, RT1, RC] at k ⊢; exact k
  · obtain ⟨cs, hc, k⟩ := k
    refine ⟨cs, hc, ?_⟩
    simp only [RCs, RC] at k ⊢
    exact k
  · cases h
theorem keyL_scal {mk : MK} {x : LV} (h : keyL mk x) : scal x = true := by
  cases mk
  · obtain ⟨n, rfl, _⟩ := h; rfl
  · obtain ⟨n, rfl⟩ := h; rfl
  · obtain ⟨a, b, rfl, _⟩ := h; rfl
theorem isV_inj (ρ : Ctx) {mk : MK} {x y : LV} {v w : Value} (hx : keyL mk x) (hy : keyL mk y) (h : isV x v) (k : isV y w) : v = w ↔ x = y := by
  have h := h ρ
  have k := k ρ
  cases mk with
  | int q =>
    obtain ⟨n, rfl, _⟩ := hx
    obtain ⟨m, rfl, _⟩ := hy
    simp only [RT1, RC] at h k
    simp at h k
    subst h; subst k
    simp
  | str =>
    obtain ⟨n, rfl⟩ := hx
    obtain ⟨m, rfl⟩ := hy
    simp only [RT1, RC] at h k
    obtain ⟨h, _⟩ := h
    obtain ⟨k, _⟩ := k
    simp at h k
    subst h; subst k
    simp
  | pair q r =>
    obtain ⟨a, b, rfl, _⟩ := hx
    obtain ⟨c, d, rfl, _⟩ := hy
    obtain ⟨cs, hcs, h2⟩ := h
    obtain ⟨ds, hds, k2⟩ := k
    subst hcs; subst hds
    simp only [RCs, RC] at h2 k2
    obtain ⟨_, _, h3, rfl, _, _, rfl, rfl, rfl⟩ := h2
    obtain ⟨_, _, k3, rfl, _, _, rfl, rfl, rfl⟩ := k2
    simp only [List.append_nil, List.cons_append, List.nil_append] at h3 k3
    constructor
    · intro e
      simp only [Value.agg.injEq] at e
      rw [e] at h3
      rw [h3] at k3
      simp at k3
      obtain ⟨rfl, rfl⟩ := k3
      rfl
    · intro e
      simp at e
      obtain ⟨rfl, rfl⟩ := e
      rw [Value.agg.injEq]
      exact Array.toList_inj.1 (h3.trans k3.symm)

/-! ### A key of two integers -/
theorem keyOf_pair2 {P : Program} {k : TypeId} {fs : Array Field} {q r : IntKind} (hk : P.underlying k = some (.struct fs)) {f0 f1 : Field} (hfs : fs.toList = [f0, f1]) (hn : fs.all (·.name != "_") = true)
    (o0 : f0.offset = 0) (o1 : f1.offset = 1) (t0 : P.underlying f0.type = some (.int q)) (t1 : P.underlying f1.type = some (.int r)) (c : P.cellsOf k = 2) (c0 : P.cellsOf f0.type = 1) (c1 : P.cellsOf f1.type = 1)
    (hkt : P.keyType k = true) (hsz : 0 < P.types.size) {a b : Int} (wa : (Lit.int q a).wf = true) (wb : (Lit.int r b).wf = true) : ∃ l, keyOf P k (.agg #[.int q a, .int r b]) = some l := by
  obtain ⟨m, hm⟩ : ∃ m, P.types.size = m + 1 := ⟨P.types.size - 1, by omega⟩
  have hl : P.keyLits (P.types.size + 1) k [.int q a, .int r b] = some [.int q a, .int r b] := by
    rw [hm]
    unfold Program.keyLits
    rw [hk]
    simp only [hn, c, hfs, List.length_cons, List.length_nil, and_self, if_true, List.mapM_cons, List.mapM_nil, o0, o1, c0, c1, List.drop_zero, List.take_succ_cons, List.take_zero, List.drop_succ_cons]
    unfold Program.keyLits
    rw [t0, t1]
    simp [wa, wb]
  unfold keyOf
  rw [hk]
  simp only [hkt, Value.formed, hk, c]
  simp only [Value.cells]
  rw [hl]
  exact ⟨_, rfl⟩

/-! ### The types of maps -/
def mpOf : List (TypeId × MK × TypeId × TypeId) → TypeId → Option (MK × TypeId × TypeId)
  | [], _ => none
  | (t', r) :: l, t => match Nat.beq t' t with | true => some r | false => mpOf l t
structure MpRow (P : Program) (t : TypeId) (mk : MK) (k e : TypeId) : Prop where
  und : P.underlying t = some (.map k e)
  key : Keyed P k
  lit : ∀ x v, keyL mk x → isV x v → ∃ l, keyOf P k v = some l
  one : ∀ inf zv, P.info? e = some inf → inf.zero = some zv → zv.oneCell' = true
def MpOK (P : Program) (M : List (TypeId × MK × TypeId × TypeId)) : Prop := ∀ t mk k e, mpOf M t = some (mk, k, e) → MpRow P t mk k e
def pairKB (P : Program) (k : TypeId) (q r : IntKind) (fs : Array Field) : Bool := match fs.toList with
  | [f0, f1] => (fs.all (·.name != "_") && decide (f0.offset = 0) && decide (f1.offset = 1) && decide (P.cellsOf k = 2) && decide (P.cellsOf f0.type = 1) && decide (P.cellsOf f1.type = 1) && P.keyType k && decide (k < P.types.size) && decide (P.types.size + 2 ≤ 10000)) &&
      ((match P.underlying f0.type with | some (.int q') => decide (q = q') | _ => false) && (match P.underlying f1.type with | some (.int r') => decide (r = r') | _ => false))
  | _ => false
def keyB (P : Program) (mk : MK) (k : TypeId) : Bool := match mk, P.underlying k with
  | .int q, some (.int q') => decide (q = q')
  | .str, some .string => true
  | .pair q r, some (.struct fs) => pairKB P k q r fs
  | _, _ => false
def mpB (P : Program) (x : TypeId × MK × TypeId × TypeId) : Bool := match x with
  | (t, mk, k, e) => (match P.underlying t with | some (.map k' e') => Nat.beq k k' && Nat.beq e e' | _ => false) && keyB P mk k &&
    (match P.info? e with | some inf => (match inf.zero with | some zv => zv.oneCell' | none => true) | none => true)
theorem MpOK_of {P : Program} {M : List (TypeId × MK × TypeId × TypeId)} (h : M.all (mpB P) = true) (hl : laidOutB P = true) : MpOK P M := by
  have row : ∀ t mk k e, mpB P (t, mk, k, e) = true → MpRow P t mk k e := by
    intro t mk k e h
    simp only [mpB, Bool.and_eq_true] at h
    obtain ⟨⟨h1, h2⟩, h3⟩ := h
    have one : ∀ inf zv, P.info? e = some inf → inf.zero = some zv → zv.oneCell' = true := fun inf zv i1 i2 => by
      rw [i1] at h3
      simp only [i2] at h3
      exact h3
    have und : P.underlying t = some (.map k e) := by
      split at h1
      · rename_i k' e' hu
        simp only [Bool.and_eq_true, Nat.beq_eq] at h1
        obtain ⟨rfl, rfl⟩ := h1
        exact hu
      · cases h1
    unfold keyB at h2
    split at h2
    · rename_i q q' hk
      obtain rfl : q = q' := by simpa using h2
      refine ⟨und, int_keyed hk, ?_, one⟩
      rintro x v ⟨n, rfl, hw⟩ hv
      have hv := hv ⟨default, fun _ => False, fun _ _ _ => False, fun _ _ _ _ => False⟩
      simp only [RT1, RC] at hv
      simp at hv
      subst hv
      exact ⟨_, keyOf_int_mk hk hw⟩
    · rename_i hk
      refine ⟨und, string_keyed hk, ?_, one⟩
      rintro x v ⟨n, rfl⟩ hv
      have hv := hv ⟨default, fun _ => False, fun _ _ _ => False, fun _ _ _ _ => False⟩
      simp only [RT1, RC] at hv
      obtain ⟨hv, hs⟩ := hv
      simp at hv
      subst hv
      exact ⟨_, keyOf_string_mk hk hs⟩
    · rename_i q r fs hk
      unfold pairKB at h2
      split at h2
      · rename_i f0 f1 hfs
        simp only [Bool.and_eq_true, decide_eq_true_eq] at h2
        obtain ⟨⟨⟨⟨⟨⟨⟨⟨⟨hn, o0⟩, o1⟩, c⟩, c0⟩, c1⟩, hkt⟩, hlt⟩, hsm⟩, h0, h1'⟩ := h2
        have t0 : P.underlying f0.type = some (.int q) := by
          split at h0
          · rename_i q' hu; rw [hu, of_decide_eq_true h0]
          · cases h0
        have t1 : P.underlying f1.type = some (.int r) := by
          split at h1'
          · rename_i q' hu; rw [hu, of_decide_eq_true h1']
          · cases h1'
        refine ⟨und, Keyed.of_law (deep_law_gate hl hsm hlt hkt (by rw [hk])), ?_, one⟩
        rintro x v ⟨a, b, rfl, wa, wb⟩ hv
        obtain ⟨cs, hcs, hv2⟩ := hv ⟨default, fun _ => False, fun _ _ _ => False, fun _ _ _ _ => False⟩
        subst hcs
        simp only [RCs, RC] at hv2
        obtain ⟨_, _, hv, rfl, _, _, rfl, rfl, rfl⟩ := hv2
        have : cs = #[.int q a, .int r b] := Array.toList_inj.1 (by simpa using hv)
        subst this
        exact keyOf_pair2 hk hfs hn o0 o1 t0 t1 c c0 c1 hkt (Nat.lt_of_le_of_lt (Nat.zero_le _) hlt) wa wb
      · cases h2
    · cases h2
  intro t mk k e he
  induction M with
  | nil => cases he
  | cons x M ih =>
    rw [List.all_cons, Bool.and_eq_true] at h
    obtain ⟨t', r⟩ := x
    simp only [mpOf] at he
    split at he
    · rename_i hb
      cases he
      obtain rfl : t' = t := Nat.eq_of_beq_eq_true hb
      exact row _ _ _ _ h.1
    · exact ih h.2 he

end Go.Lg

