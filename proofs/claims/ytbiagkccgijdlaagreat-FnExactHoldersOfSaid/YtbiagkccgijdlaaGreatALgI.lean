/- Contracts of functions over readings; a call by its contract. -/
import Derived.Test.YtbiagkccgijdlaaGreatALgH
namespace Go.Lg
variable [GI]
set_option linter.unusedSectionVars false
set_option linter.unusedVariables false
set_option linter.unusedSimpArgs false
open Go.RowKit

def RR1 (w : World) (O : Nat → Prop) (base : Nat) (x : LV) (v : Value) (bs : List Nat) : Prop :=
  match x with
  | .st fs => ∃ cs : Array Value, v = .agg cs ∧ RRcs w O base fs cs.toList bs
  | y => RRc w O base y [v] bs

def RRt (w : World) (O : Nat → Prop) (base : Nat) : List LV → List Value → List Nat → Prop
  | [], vs, bs => vs = [] ∧ bs = []
  | x :: xs, vs, bs => ∃ u us b1 b2, vs = u :: us ∧ bs = b1 ++ b2 ∧ RR1 w O base x u b1 ∧ RRt w O base xs us b2

def RR (w : World) (O : Nat → Prop) (base : Nat) (x : LV) (v : Value) (bs : List Nat) : Prop :=
  match x with
  | .tup vs => ∃ us : Array Value, v = .tuple us ∧ RRt w O base vs us.toList bs
  | y => RR1 w O base y v bs

/-- What a call hands back: fresh rows apart from each other, and readings that avoid them and what was to be avoided. -/
def Res (base : Nat) (O : Nat → Prop) (w : World) (x : LV) (v : Value) : Prop :=
  ∃ bs : List Nat, bs.Nodup ∧ RR w (fun b => O b ∨ b ∈ bs) base x v bs

/-- The contract: called with values that read as 'args', the function returns one that reads as 'r', and nothing that was there turns. -/
@[irreducible] def FSpec (P : Program) (f : FuncId) (args : List LV) (r : LV) : Prop :=
  (∀ (vs : Array Value) (w : World), (callFunc f vs).run P w = .ok (.enter f vs) w) ∧
  ∀ (w : World) (O : Nat → Prop) (vs : Array Value), GI.I w.heap.size w → (∀ b, O b → b < w.heap.size) → vs.size = args.length →
    (∀ (i : Nat) x v, args[i]? = some x → vs[i]? = some v → RT (pctx O w) x v) →
    Calls P f vs w fun e w' => ∃ v, e = .returned v ∧ Below w.heap.size w w' ∧ Res w.heap.size O w' r v

/-- The contract of a function that may write what it is lent: called where blocks 'Hin' are lent, with values that read as 'args', it returns one that reads as 'r', and leaves 'Hout'. -/
@[irreducible] def HSpec (P : Program) (f : FuncId) (args : List LV) (Hin : List Blk) (r : LV) (Hout : List Blk) : Prop :=
  (∀ (vs : Array Value) (w : World), (callFunc f vs).run P w = .ok (.enter f vs) w) ∧
  ∀ (X : Nat → Prop) (B : Nat) (w : World) (vs : Array Value) (pl : Nat → PV), Good X B ⟨w, Hin, pl⟩ Hin pl w → vs.size = args.length →
    (∀ (i : Nat) x v, args[i]? = some x → vs[i]? = some v → RT (ctx X Hin pl w) x v) →
    Calls P f vs w fun e w' => ∃ v pl', e = .returned v ∧ Good X B ⟨w, Hin, pl⟩ Hout pl' w' ∧ RT (ctx X Hout pl' w') r v ∧ (ctx X Hin pl w).Le (ctx X Hout pl' w')

mutual
def dm : LV → LV
  | .own _ _ xs => .sl xs
  | .st fs => .st (dms fs)
  | .undef => .undef
  | .int k n => .int k n
  | .bool b => .bool b
  | .lit b => .lit b
  | .str s => .str s
  | .nil => .nil
  | .sl xs => .sl xs
  | .tup vs => .tup vs
  | .ref c => .ref c
  | .clos f c => .clos f c
  | .ifc f c => .ifc f c
  | .hs i n => .hs i n
  | .hp i n p => .hp i n p
def dms : List LV → List LV
  | [] => []
  | x :: xs => dm x :: dms xs
end

def dmT : LV → LV
  | .tup vs => .tup (dms vs)
  | .own _ _ xs => .sl xs
  | .st fs => .st (dms fs)
  | x => x

mutual
def flatB : LV → Bool
  | .int _ _ | .bool _ | .str _ | .nil | .lit _ => true
  | .st fs => flatsB fs
  | .own _ _ xs => flatsB xs
  | _ => false
def flatsB : List LV → Bool
  | [] => true
  | x :: xs => flatB x && flatsB xs
end
def flatT : LV → Bool
  | .tup vs => flatsB vs
  | x => flatB x

/-- Where a result is taken over: its own rows are no one's, what it avoids is at least what is owned. -/
structure Takes (ρ : Ctx) (w : World) (O : Nat → Prop) (base : Nat) : Prop where
  w : ρ.w = w
  o : ∀ b, ρ.O b → O b ∧ b < base

theorem Takes.le {ρ : Ctx} {w : World} {O : Nat → Prop} {base : Nat} (t : Takes ρ w O base) : (pctx O w).Le ρ := by
  obtain ⟨rfl, h⟩ := t
  exact ⟨Nat.le_refl _, fun _ _ _ => rfl, fun b _ k => (h b k).1, fun _ _ _ k => k.elim, fun _ _ _ _ k => k.elim⟩

mutual
theorem RRc_dm {ρ : Ctx} {w : World} {O : Nat → Prop} {base : Nat} (t : Takes ρ w O base) : ∀ (x : LV) (cs : List Value) (bs : List Nat), RRc w O base x cs bs → RC ρ (dm x) cs
  | .own e k xs, cs, bs, h => by
    simp only [RRc] at h
    obtain ⟨v, es, rfl, h1, h2, h3, h4, _⟩ := h
    simp only [dm, RC]
    rcases h1.2 with ⟨rfl, hn⟩ | ⟨g, cap, cur, rfl, hg, hcur, hc1, hc2, _⟩
    · have : xs = [] := List.eq_nil_of_length_eq_zero hn
      subst this
      exact ⟨none, 0, rfl, Nat.le_refl _, Nat.zero_le _, .inl rfl⟩
    · refine ⟨_, cap, rfl, hc1, hc2, .inr ⟨⟨g, 0, none⟩, es, k, rfl, ?_, fun o => ?_, RCs.mono (t.le).pure _ _ (RCs.mono (Ctx.Le.pure (ρ := pctx O w) ⟨Nat.le_refl _, fun _ _ _ => rfl, fun _ _ h => h, fun _ _ _ h => h, fun _ _ _ _ h => h⟩) _ _ h2), ?_, h3⟩⟩
      · rw [t.w]
        rcases Nat.lt_or_ge g w.heap.size with h | h
        · exact h
        · simp [Array.getElem?_eq_none h] at hcur
      · have := (t.o _ o).2
        simp only at this
        omega
      · rw [t.w]
        by_cases he : es = []
        · subst he; exact ⟨rfl, fun j u hu => by simp at hu⟩
        · exact (CellsAt_row h1 he).2
  | .st fs, cs, bs, h => by simp only [RRc] at h; simp only [dm]; rw [RC_st]; exact RRcs_dm t fs cs bs h
  | .undef, cs, bs, h => by simp only [RRc] at h; exact RC.mono t.le _ _ h.1
  | .int k n, cs, bs, h => by simp only [RRc] at h; exact RC.mono t.le _ _ h.1
  | .bool b, cs, bs, h => by simp only [RRc] at h; exact RC.mono t.le _ _ h.1
  | .lit b, cs, bs, h => by simp only [RRc] at h; exact RC.mono t.le _ _ h.1
  | .str s, cs, bs, h => by simp only [RRc] at h; exact RC.mono t.le _ _ h.1
  | .nil, cs, bs, h => by simp only [RRc] at h; exact RC.mono t.le _ _ h.1
  | .sl xs, cs, bs, h => by simp only [RRc] at h; exact RC.mono t.le _ _ h.1
  | .tup _, _, _, h => by simp [RRc] at h
  | .ref c, cs, bs, h => by simp only [RRc] at h; exact RC.mono t.le _ _ h.1
  | .clos f c, cs, bs, h => by simp only [RRc] at h; exact RC.mono t.le _ _ h.1
  | .ifc f c, cs, bs, h => by simp only [RRc] at h; exact RC.mono t.le _ _ h.1
  | .hs _ _, _, _, h => by simp [RRc] at h
  | .hp _ _ _, _, _, h => by simp [RRc] at h
theorem RRcs_dm {ρ : Ctx} {w : World} {O : Nat → Prop} {base : Nat} (t : Takes ρ w O base) : ∀ (xs : List LV) (cs : List Value) (bs : List Nat), RRcs w O base xs cs bs → RCs ρ (dms xs) cs
  | [], cs, bs, h => by simp only [RRcs] at h; simp only [dms, RCs]; exact h.1
  | x :: xs, cs, bs, h => by
    simp only [RRcs] at h
    obtain ⟨c1, c2, b1, b2, rfl, _, h1, h2⟩ := h
    simp only [dms, RCs]
    exact ⟨c1, c2, rfl, RRc_dm t x c1 b1 h1, RRcs_dm t xs c2 b2 h2⟩
end

theorem RR1_dm {ρ : Ctx} {w : World} {O : Nat → Prop} {base : Nat} (t : Takes ρ w O base) {x : LV} {v : Value} {bs : List Nat} (h : RR1 w O base x v bs) : RT1 ρ (dm x) v := by
  unfold RR1 at h
  cases x <;> simp only at h
  case st fs => obtain ⟨cs, rfl, h1⟩ := h; simp only [dm, RT1]; exact ⟨cs, rfl, RRcs_dm t _ _ _ h1⟩
  all_goals first
    | exact True.intro
    | (simp only [RRc] at h; done)
    | (have := RRc_dm t _ _ _ h; simpa only [dm, RT1] using this)

theorem RRt_dm {ρ : Ctx} {w : World} {O : Nat → Prop} {base : Nat} (t : Takes ρ w O base) : ∀ (xs : List LV) (vs : List Value) (bs : List Nat), RRt w O base xs vs bs →
    vs.length = xs.length ∧ ∀ (i : Nat) y u, (dms xs)[i]? = some y → vs[i]? = some u → RT1 ρ y u
  | [], vs, bs, h => by simp only [RRt] at h; rw [h.1]; exact ⟨rfl, fun i y u hy => by simp [dms] at hy⟩
  | x :: xs, vs, bs, h => by
    simp only [RRt] at h
    obtain ⟨u, us, b1, b2, rfl, _, h1, h2⟩ := h
    obtain ⟨k1, k2⟩ := RRt_dm t xs us b2 h2
    refine ⟨by simp [k1], fun i y u' hy hu => ?_⟩
    cases i with
    | zero => simp only [dms, List.getElem?_cons_zero, Option.some.injEq] at hy hu; subst hy; subst hu; exact RR1_dm t h1
    | succ i => exact k2 i y u' (by simpa [dms] using hy) (by simpa using hu)

theorem dms_length : ∀ xs : List LV, (dms xs).length = xs.length
  | [] => rfl
  | x :: xs => by simp [dms, dms_length xs]

theorem RR_dm {ρ : Ctx} {w : World} {O : Nat → Prop} {base : Nat} (t : Takes ρ w O base) {x : LV} {v : Value} {bs : List Nat} (h : RR w O base x v bs) : RT ρ (dmT x) v := by
  unfold RR at h
  cases x <;> simp only at h
  case tup vs =>
    obtain ⟨us, rfl, h1⟩ := h
    obtain ⟨k1, k2⟩ := RRt_dm t _ _ _ h1
    simp only [dmT, RT]
    exact ⟨us, rfl, by rw [dms_length, ← k1, Array.length_toList], fun i y u hy hu => k2 i y u hy (by simpa using hu)⟩
  all_goals
    have := RR1_dm t h
    simpa only [dmT, dm, RT] using this

theorem pctx_leO {w : World} {O O' : Nat → Prop} (h : ∀ b, O' b → O b) : (pctx O w).Le (pctx O' w) := ⟨Nat.le_refl _, fun _ _ _ => rfl, fun b _ k => h b k, fun _ _ _ k => k, fun _ _ _ _ k => k⟩

mutual
/-- What owns rows, frozen: nothing of it is to be avoided. -/
theorem RRc_dmO {w : World} {O O' : Nat → Prop} {base : Nat} (hO : ∀ b, O' b → O b) : ∀ (x : LV) (cs : List Value) (bs : List Nat), (∀ b ∈ bs, ¬ O' b) → RRc w O base x cs bs → RC (pctx O' w) (dm x) cs
  | .own e k xs, cs, bs, hn, h => by
    simp only [RRc] at h
    obtain ⟨v, es, rfl, h1, h2, h3, h4, rfl⟩ := h
    simp only [dm, RC]
    rcases h1.2 with ⟨rfl, hl⟩ | ⟨g, cap, cur, rfl, hg, hcur, hc1, hc2, _⟩
    · have : xs = [] := List.eq_nil_of_length_eq_zero hl
      subst this
      exact ⟨none, 0, rfl, Nat.le_refl _, Nat.zero_le _, .inl rfl⟩
    · refine ⟨_, cap, rfl, hc1, hc2, .inr ⟨⟨g, 0, none⟩, es, k, rfl, ?_, fun o => hn g (by simp [hasBk, bk]) o, RCs.mono (pctx_leO hO).pure _ _ h2, ?_, h3⟩⟩
      · show g < w.heap.size
        rcases Nat.lt_or_ge g w.heap.size with h | h
        · exact h
        · simp [Array.getElem?_eq_none h] at hcur
      · by_cases he : es = []
        · subst he; exact ⟨rfl, fun j u hu => by simp at hu⟩
        · exact (CellsAt_row h1 he).2
  | .st fs, cs, bs, hn, h => by simp only [RRc] at h; simp only [dm]; rw [RC_st]; exact RRcs_dmO hO fs cs bs hn h
  | .undef, cs, bs, _, h => by simp only [RRc] at h; simp only [dm]; have := h.1; simp only [RC] at this ⊢; exact this
  | .int k n, cs, bs, _, h => by simp only [RRc] at h; simp only [dm]; have := h.1; simp only [RC] at this ⊢; exact this
  | .bool b, cs, bs, _, h => by simp only [RRc] at h; simp only [dm]; have := h.1; simp only [RC] at this ⊢; exact this
  | .lit b, cs, bs, _, h => by simp only [RRc] at h; simp only [dm]; have := h.1; simp only [RC] at this ⊢; exact this
  | .str s, cs, bs, _, h => by simp only [RRc] at h; simp only [dm]; have := h.1; simp only [RC] at this ⊢; exact this
  | .nil, cs, bs, _, h => by simp only [RRc] at h; simp only [dm]; have := h.1; simp only [RC] at this ⊢; exact this
  | .sl xs, cs, bs, _, h => by simp only [RRc] at h; simp only [dm]; exact RC.mono (pctx_leO hO) _ _ h.1
  | .tup _, _, _, _, h => by simp [RRc] at h
  | .ref c, cs, bs, _, h => by simp only [RRc] at h; simp only [dm]; exact RC.mono (pctx_leO hO) _ _ h.1
  | .clos f c, cs, bs, _, h => by simp only [RRc] at h; simp only [dm]; exact RC.mono (pctx_leO hO) _ _ h.1
  | .ifc f c, cs, bs, _, h => by simp only [RRc] at h; simp only [dm]; exact RC.mono (pctx_leO hO) _ _ h.1
  | .hs _ _, _, _, _, h => by simp [RRc] at h
  | .hp _ _ _, _, _, _, h => by simp [RRc] at h
theorem RRcs_dmO {w : World} {O O' : Nat → Prop} {base : Nat} (hO : ∀ b, O' b → O b) : ∀ (xs : List LV) (cs : List Value) (bs : List Nat), (∀ b ∈ bs, ¬ O' b) → RRcs w O base xs cs bs → RCs (pctx O' w) (dms xs) cs
  | [], cs, bs, _, h => by simp only [RRcs] at h; simp only [dms, RCs]; exact h.1
  | x :: xs, cs, bs, hn, h => by
    simp only [RRcs] at h
    obtain ⟨c1, c2, b1, b2, rfl, rfl, h1, h2⟩ := h
    simp only [dms, RCs]
    exact ⟨c1, c2, rfl, RRc_dmO hO x c1 b1 (fun b hb => hn b (List.mem_append_left _ hb)) h1, RRcs_dmO hO xs c2 b2 (fun b hb => hn b (List.mem_append_right _ hb)) h2⟩
end

mutual
theorem dm_size : ∀ x : LV, (dm x).size = x.size
  | .st fs => by simp only [dm, LV.size]; exact dms_sizesum fs
  | .own _ _ _ => rfl | .undef => rfl | .int _ _ => rfl | .bool _ => rfl | .str _ => rfl | .nil => rfl | .sl _ => rfl | .tup _ => rfl | .ref _ => rfl | .clos _ _ => rfl | .ifc _ _ => rfl | .lit _ => rfl | .hs _ _ => rfl | .hp _ _ _ => rfl
theorem dms_sizesum : ∀ xs : List LV, LV.sizes (dms xs) = LV.sizes xs
  | [] => rfl
  | x :: xs => by simp only [dms, LV.sizes, dm_size x, dms_sizesum xs]
end
theorem dms_map : ∀ xs : List LV, dms xs = xs.map dm
  | [] => rfl
  | x :: xs => by simp only [dms, List.map_cons, dms_map xs]
theorem dms_sizes {k : Nat} {xs : List LV} (h : ∀ x ∈ xs, x.size = k) : ∀ x ∈ dms xs, x.size = k := by
  rw [dms_map]
  intro x hx
  obtain ⟨y, hy, rfl⟩ := List.mem_map.1 hx
  rw [dm_size]; exact h y hy

mutual
/-- What is flat reads so anywhere. -/
theorem RC_flat {ρ ρ' : Ctx} : ∀ (x : LV) (cs : List Value), flatB x = true → RC ρ x cs → RC ρ' x cs
  | .st fs, cs, f, h => by rw [RC_st] at h ⊢; simp only [flatB] at f; exact RCs_flat fs cs f h
  | .int k n, cs, _, h => by simp only [RC] at h ⊢; exact h
  | .bool b, cs, _, h => by simp only [RC] at h ⊢; exact h
  | .lit b, cs, _, h => by simp only [RC] at h ⊢; exact h
  | .str s, cs, _, h => by simp only [RC] at h ⊢; exact h
  | .nil, cs, _, h => by simp only [RC] at h ⊢; exact h
  | .own _ _ _, _, _, h => by simp [RC] at h
  | .undef, _, f, _ => by simp [flatB] at f
  | .sl _, _, f, _ => by simp [flatB] at f
  | .tup _, _, f, _ => by simp [flatB] at f
  | .ref _, _, f, _ => by simp [flatB] at f
  | .clos _ _, _, f, _ => by simp [flatB] at f
  | .ifc _ _, _, f, _ => by simp [flatB] at f
  | .hs _ _, _, f, _ => by simp [flatB] at f
  | .hp _ _ _, _, f, _ => by simp [flatB] at f
theorem RCs_flat {ρ ρ' : Ctx} : ∀ (xs : List LV) (cs : List Value), flatsB xs = true → RCs ρ xs cs → RCs ρ' xs cs
  | [], cs, _, h => by simp only [RCs] at h ⊢; exact h
  | x :: xs, cs, f, h => by
    simp only [RCs] at h ⊢
    simp only [flatsB, Bool.and_eq_true] at f
    obtain ⟨c1, c2, rfl, h1, h2⟩ := h
    exact ⟨c1, c2, rfl, RC_flat x c1 f.1 h1, RCs_flat xs c2 f.2 h2⟩
end

/-- The fresh rows of a result are no one's. -/
structure Fresh (ρ : Ctx) (w : World) (base : Nat) : Prop where
  w : ρ.w = w
  o : ∀ b, ρ.O b → b < base

mutual
theorem RRc_flat {ρ : Ctx} {w : World} {O : Nat → Prop} {base : Nat} (t : Fresh ρ w base) : ∀ (x : LV) (cs : List Value) (bs : List Nat), flatB x = true → RRc w O base x cs bs → RC ρ (dm x) cs
  | .st fs, cs, bs, f, h => by simp only [RRc] at h; simp only [flatB] at f; simp only [dm]; rw [RC_st]; exact RRcs_flat t fs cs bs f h
  | .int k n, cs, bs, _, h => by simp only [RRc] at h; simp only [dm]; have := h.1; simp only [RC] at this ⊢; exact this
  | .bool b, cs, bs, _, h => by simp only [RRc] at h; simp only [dm]; have := h.1; simp only [RC] at this ⊢; exact this
  | .lit b, cs, bs, _, h => by simp only [RRc] at h; simp only [dm]; have := h.1; simp only [RC] at this ⊢; exact this
  | .str s, cs, bs, _, h => by simp only [RRc] at h; simp only [dm]; have := h.1; simp only [RC] at this ⊢; exact this
  | .nil, cs, bs, _, h => by simp only [RRc] at h; simp only [dm]; have := h.1; simp only [RC] at this ⊢; exact this
  | .own e k xs, cs, bs, f, h => by
    simp only [RRc] at h
    simp only [flatB] at f
    obtain ⟨v, es, rfl, h1, h2, h3, h4, _⟩ := h
    simp only [dm, RC]
    rcases h1.2 with ⟨rfl, hn⟩ | ⟨g, cap, cur, rfl, hg, hcur, hc1, hc2, _⟩
    · have : xs = [] := List.eq_nil_of_length_eq_zero hn
      subst this
      exact ⟨none, 0, rfl, Nat.le_refl _, Nat.zero_le _, .inl rfl⟩
    · refine ⟨_, cap, rfl, hc1, hc2, .inr ⟨⟨g, 0, none⟩, es, k, rfl, ?_, fun o => ?_, RCs_flat xs es f h2, ?_, h3⟩⟩
      · rw [t.w]
        rcases Nat.lt_or_ge g w.heap.size with h | h
        · exact h
        · simp [Array.getElem?_eq_none h] at hcur
      · have := t.o _ o
        simp only at this
        omega
      · rw [t.w]
        by_cases he : es = []
        · subst he; exact ⟨rfl, fun j u hu => by simp at hu⟩
        · exact (CellsAt_row h1 he).2
  | .undef, _, _, f, _ => by simp [flatB] at f
  | .sl _, _, _, f, _ => by simp [flatB] at f
  | .tup _, _, _, f, _ => by simp [flatB] at f
  | .ref _, _, _, f, _ => by simp [flatB] at f
  | .clos _ _, _, _, f, _ => by simp [flatB] at f
  | .ifc _ _, _, _, f, _ => by simp [flatB] at f
  | .hs _ _, _, _, f, _ => by simp [flatB] at f
  | .hp _ _ _, _, _, f, _ => by simp [flatB] at f
theorem RRcs_flat {ρ : Ctx} {w : World} {O : Nat → Prop} {base : Nat} (t : Fresh ρ w base) : ∀ (xs : List LV) (cs : List Value) (bs : List Nat), flatsB xs = true → RRcs w O base xs cs bs → RCs ρ (dms xs) cs
  | [], cs, bs, _, h => by simp only [RRcs] at h; simp only [dms, RCs]; exact h.1
  | x :: xs, cs, bs, f, h => by
    simp only [RRcs] at h
    simp only [flatsB, Bool.and_eq_true] at f
    obtain ⟨c1, c2, b1, b2, rfl, _, h1, h2⟩ := h
    simp only [dms, RCs]
    exact ⟨c1, c2, rfl, RRc_flat t x c1 b1 f.1 h1, RRcs_flat t xs c2 b2 f.2 h2⟩
end

theorem RR1_flat {ρ : Ctx} {w : World} {O : Nat → Prop} {base : Nat} (t : Fresh ρ w base) {x : LV} {v : Value} {bs : List Nat} (f : flatB x = true) (h : RR1 w O base x v bs) : RT1 ρ (dm x) v := by
  unfold RR1 at h
  cases x <;> simp only at h
  case st fs => obtain ⟨cs, rfl, h1⟩ := h; simp only [dm, RT1]; exact ⟨cs, rfl, RRcs_flat t _ _ _ (by simpa [flatB] using f) h1⟩
  all_goals first
    | (simp only [flatB] at f; cases f; done)
    | (have := RRc_flat t _ _ _ f h; simpa only [dm, RT1] using this)

theorem RRt_flat {ρ : Ctx} {w : World} {O : Nat → Prop} {base : Nat} (t : Fresh ρ w base) : ∀ (xs : List LV) (vs : List Value) (bs : List Nat), flatsB xs = true → RRt w O base xs vs bs →
    vs.length = xs.length ∧ ∀ (i : Nat) y u, (dms xs)[i]? = some y → vs[i]? = some u → RT1 ρ y u
  | [], vs, bs, _, h => by simp only [RRt] at h; rw [h.1]; exact ⟨rfl, fun i y u hy => by simp [dms] at hy⟩
  | x :: xs, vs, bs, f, h => by
    simp only [RRt] at h
    simp only [flatsB, Bool.and_eq_true] at f
    obtain ⟨u, us, b1, b2, rfl, _, h1, h2⟩ := h
    obtain ⟨k1, k2⟩ := RRt_flat t xs us b2 f.2 h2
    refine ⟨by simp [k1], fun i y u' hy hu => ?_⟩
    cases i with
    | zero => simp only [dms, List.getElem?_cons_zero, Option.some.injEq] at hy hu; subst hy; subst hu; exact RR1_flat t f.1 h1
    | succ i => exact k2 i y u' (by simpa [dms] using hy) (by simpa using hu)

theorem RR_flat {ρ : Ctx} {w : World} {O : Nat → Prop} {base : Nat} (t : Fresh ρ w base) {x : LV} {v : Value} {bs : List Nat} (f : flatT x = true) (h : RR w O base x v bs) : RT ρ (dmT x) v := by
  unfold RR at h
  cases x <;> simp only at h
  case tup vs =>
    obtain ⟨us, rfl, h1⟩ := h
    obtain ⟨k1, k2⟩ := RRt_flat t _ _ _ (by simpa [flatT] using f) h1
    simp only [dmT, RT]
    exact ⟨us, rfl, by rw [dms_length, ← k1, Array.length_toList], fun i y u hy hu => k2 i y u hy (by simpa using hu)⟩
  all_goals
    have := RR1_flat t (by simpa only [flatT] using f) h
    simpa only [dmT, dm, RT] using this

end Go.Lg

