/- Structs compared: their fields are numbers, texts and truths. -/
import Derived.Test.YtbiagkccgijdlaaGreatALgO
import Derived.Laws.StructEq
namespace Go.Lg
variable [GI]
set_option linter.unusedSectionVars false
set_option linter.unusedVariables false
set_option linter.unusedSimpArgs false
open Go.RowKit

def eq1 : LV → LV → Bool
  | .int _ a, .int _ b => eqI a b
  | .str a, .str b => eqS a b
  | .bool a, .bool b => eqB a b
  | _, _ => true
def eqAll : List LV → List LV → Bool
  | u :: us, v :: vs => eq1 u v && eqAll us vs
  | _, _ => true

/-- The fields fit their types, one cell each. -/
def okEq (T : Tab) : List (TypeId × Nat) → Nat → List LV → List LV → Bool
  | [], _, [], [] => true
  | (t, o) :: fs, n, u :: us, v :: vs => match Nat.beq o n with
    | true => match T t with
      | some i => match i.kind, u, v with
        | .int _, .int k _, .int k' _ => match Nat.beq (kc k) (kc k') with | true => okEq T fs (n + 1) us vs | false => false
        | .str, .str _, .str _ => okEq T fs (n + 1) us vs
        | .bool, .bool _, .bool _ => okEq T fs (n + 1) us vs
        | _, _, _ => false
      | none => false
    | false => false
  | _, _, _, _ => false

abbrev CTab := TypeId → Option (List (TypeId × Nat))
structure CmpOK (P : Program) (t : TypeId) (fs : List (TypeId × Nat)) : Prop where
  und : P.underlying t = some (.struct (P.fieldsOf t))
  eqg : P.eqGuardType P.depth t = false
  stood : P.stoodInHeld t = false
  fields : (P.fieldsOf t).toList.map (fun f => (f.type, f.offset)) = fs
  names : ∀ f ∈ (P.fieldsOf t).toList, f.name ≠ "_"
def COK (P : Program) (C : CTab) : Prop := ∀ t fs, C t = some fs → CmpOK P t fs

def cmpB (P : Program) (t : TypeId) (fs : List (TypeId × Nat)) : Bool :=
  (match P.underlying t with | some (.struct _) => true | _ => false) && !P.eqGuardType P.depth t && !P.stoodInHeld t && decide ((P.fieldsOf t).toList.map (fun f => (f.type, f.offset)) = fs) && (P.fieldsOf t).toList.all fun f => !(f.name == "_")

theorem cmpOK_of_B {P : Program} {t : TypeId} {fs : List (TypeId × Nat)} (h : cmpB P t fs = true) : CmpOK P t fs := by
  simp only [cmpB, Bool.and_eq_true, Bool.not_eq_true', decide_eq_true_eq] at h
  obtain ⟨⟨⟨⟨h1, h2⟩, h3⟩, h4⟩, h5⟩ := h
  refine ⟨?_, h2, h3, h4, fun f hf => ?_⟩
  · split at h1
    · rename_i fs e; simp [Program.fieldsOf, e]
    · cases h1
  · have := List.all_eq_true.1 h5 f hf
    simpa using this

def eqStW (T : Tab) (C : CTab) (op : BinOp) (t : TypeId) (us vs : List LV) (K : LV → Prop) : Prop :=
  match C t with
  | none => False
  | some fs => match okEq T fs 0 us vs with
    | false => False
    | true => match op with
      | .eql => K (.bool (eqAll us vs))
      | .neq => K (.bool (notB (eqAll us vs)))
      | _ => False

def binCW (T : Tab) (C : CTab) (op : BinOp) (t : TypeId) (x y : LV) (K : LV → Prop) : Prop :=
  match x, y with
  | .st us, .st vs => eqStW T C op t us vs K
  | x, y => binW T op t x y K

section
variable {P : Program} {X : Nat → Prop} {B : Nat} {W0 : Orig} {ts : List LV} {H : List Blk} {a : Act} {pl : Nat → PV} {w : World} {T : Tab} {C : CTab}

theorem run_part_one {t : TypeId} {i : TyI} (h : TyOK P t i) (hs : isStruct i.kind = false) {cs : Array Value} {n : Nat} {v : Value} (hv : cs[n]? = some v) (w : World) : (part t cs n).run P w = .ok v w := by
  simp [part, run_isAgg h, hs, hv]

theorem run_eqFields (hT : TabOK P T) {ρ : Ctx} : ∀ (fl : List Field) (n : Nat) (us vs : List LV) (c1 c2 : List Value) (d1 d2 : List Value), (∀ f ∈ fl, f.name ≠ "_") →
    okEq T (fl.map fun f => (f.type, f.offset)) n us vs = true → RCs ρ us d1 → RCs ρ vs d2 → c1.length = n → c2.length = n →
    ∀ w : World, (Op.eqFields 9999 (c1 ++ d1).toArray (c2 ++ d2).toArray fl).run P w = .ok (eqAll us vs) w
  | [], n, us, vs, c1, c2, d1, d2, _, h, _, _, _, _, w => by
    cases us <;> cases vs <;> simp [okEq] at h
    simp [Op.eqFields, eqAll]
  | f :: fl, n, us, vs, c1, c2, d1, d2, hn, h, h1, h2, l1, l2, w => by
    cases us with
    | nil => cases vs <;> simp [okEq] at h
    | cons u us =>
      cases vs with
      | nil => simp [okEq] at h
      | cons v vs =>
        simp only [List.map_cons, okEq] at h
        split at h
        · rename_i ho
          have ho := Nat.eq_of_beq_eq_true ho
          split at h
          · rename_i i hi
            have hty := hT _ _ hi
            obtain ⟨d, hd, hd2, _⟩ := hty.und
            simp only [RCs] at h1 h2
            obtain ⟨e1, f1, rfl, g1, g2⟩ := h1
            obtain ⟨e2, f2, rfl, g3, g4⟩ := h2
            have step : ∀ {x y : Value} {b : Bool}, e1 = [x] → e2 = [y] → isStruct i.kind = false → (∀ w : World, (Op.equalIn (9998 + 1) f.type x y).run P w = .ok b w) → b = eq1 u v →
                okEq T (fl.map fun f => (f.type, f.offset)) (n + 1) us vs = true →
                (Op.eqFields 9999 (c1 ++ (e1 ++ f1)).toArray (c2 ++ (e2 ++ f2)).toArray (f :: fl)).run P w = .ok (eqAll (u :: us) (v :: vs)) w := by
              intro x y b hx hy hs hq hb hok
              subst hx
              subst hy
              have p1 := run_part_one (P := P) hty hs (cs := (c1 ++ ([x] ++ f1)).toArray) (n := f.offset) (v := x) (by simp [ho, ← l1]) w
              have p2 := run_part_one (P := P) hty hs (cs := (c2 ++ ([y] ++ f2)).toArray) (n := f.offset) (v := y) (by simp [ho, ← l2]) w
              have ih := run_eqFields hT fl (n + 1) us vs (c1 ++ [x]) (c2 ++ [y]) f1 f2 (fun g hg => hn g (by simp [hg])) hok g2 g4 (by simp [l1]) (by simp [l2]) w
              simp only [List.append_assoc] at ih
              have hq' := hq w
              simp only [Op.eqFields, hn f (by simp), ne_eq, not_false_eq_true, if_true, Sem.run_bind, p1, p2, Result.andThen_ok, hq', eqAll, ← hb]
              cases b
              · simp
              · simpa using ih
            split at h
            · rename_i k0 k1 m k2 m' hk
              split at h
              · rename_i hkk
                obtain rfl := kc_inj hkk
                simp only [RC] at g1 g3
                rw [hk] at hd2
                obtain rfl := kind_int hd2
                exact step g1 g3 (by rw [hk]; rfl) (fun w => run_equalIn_int w 9998 _ k1 k0 m m' hd) (by simp [eq1, eqI]) h
              · cases h
            · rename_i s1 s2 hk
              simp only [RC] at g1 g3
              rw [hk] at hd2
              obtain rfl := kind_str hd2
              exact step g1.1 g3.1 (by rw [hk]; rfl) (fun w => run_equalIn_string w 9998 _ s1 s2 hd) (by simp [eq1, eqS]) h
            · rename_i s1 s2 hk
              simp only [RC] at g1 g3
              rw [hk] at hd2
              obtain rfl := kind_bool hd2
              exact step g1 g3 (by rw [hk]; rfl) (fun w => run_equalIn_bool' w 9998 _ s1 s2 hd) (by simp [eq1, eqB]) h
            · cases h
          · cases h
        · cases h

theorem op_binC (hT : TabOK P T) (hC : COK P C) {o : Oper} {op : BinOp} {t yt : TypeId} {x y : Operand} (ho : o.op = .binOp op t x y yt) (s : Sim X B W0 ⟨ts, H⟩ a w pl) {K : LV → List Blk → Prop}
    (h : binCW T C op t (ev ts x) (ev ts y) fun v => K v H) : OpResS P o a w X B W0 ts H pl K := by
  unfold binCW at h
  split at h
  · rename_i us vs e1 e2
    have hx := ev_sound s x
    have hy := ev_sound s y
    rw [e1] at hx
    rw [e2] at hy
    simp only [RT, RT1] at hx hy
    obtain ⟨cs1, v1, r1⟩ := hx
    obtain ⟨cs2, v2, r2⟩ := hy
    unfold eqStW at h
    cases hc : C t with
    | none => rw [hc] at h; exact h.elim
    | some fs =>
      rw [hc] at h
      simp only at h
      have hok := hC t fs hc
      split at h
      · exact h.elim
      · rename_i hb
        rw [← hok.fields] at hb
        have hr : ∀ w : World, (Op.equalIn 10000 t (.agg cs1) (.agg cs2)).run P w = .ok (eqAll us vs) w := fun w => by
          rw [run_equalIn_struct w 9999 t cs1 cs2 hok.und hok.stood]
          have := run_eqFields hT (P.fieldsOf t).toList 0 us vs [] [] cs1.toList cs2.toList hok.names hb r1 r2 rfl rfl w
          simpa using this
        have hg := run_eqGuard_agg (P := P) w op t x y cs1 cs2 hok.eqg
        split at h
        · have h2 := run_eql_struct (P := P) w t cs1 cs2
          rw [hr] at h2
          exact OpResS.pure s (v := .bool (eqAll us vs)) (by simp [execOp, ho, v1, v2, hg, h2]) h (RT_mk_bool _ _)
        · have h2 := run_neq_struct (P := P) w t cs1 cs2
          rw [hr] at h2
          exact OpResS.pure s (v := .bool (!(eqAll us vs))) (by simp [execOp, ho, v1, v2, hg, h2]) h (by unfold notB; exact RT_mk_bool _ _)
        · exact h.elim
  · exact op_bin hT ho s h

theorem binCW_ex {op : BinOp} {t : TypeId} {u v : LV} {K : LV → Prop} (hb : ∀ {u v : LV} {K : LV → Prop}, binW T op t u v K → ∃ x, K x ∧ ∀ K' : LV → Prop, K' x → binW T op t u v K')
    (h : binCW T C op t u v K) : ∃ x, K x ∧ ∀ K' : LV → Prop, K' x → binCW T C op t u v K' := by
  unfold binCW at h ⊢
  split at h
  · rename_i us vs
    unfold eqStW at h ⊢
    cases hc : C t with
    | none => rw [hc] at h; exact h.elim
    | some fs =>
      rw [hc] at h
      simp only at h ⊢
      cases hok : okEq T fs 0 us vs with
      | false => rw [hok] at h; exact h.elim
      | true =>
        rw [hok] at h
        cases op <;> simp only at h ⊢ <;> first
          | exact h.elim
          | exact ⟨_, h, fun _ h => h⟩
  · rename_i hne
    obtain ⟨x, h1, h2⟩ := hb h
    refine ⟨x, h1, fun K' hk => ?_⟩
    exact h2 K' hk

end
end Go.Lg

