/- Calls by contract; the operations of a region, one after the other. -/
import Derived.Test.YtbiagkccgijdlaaGreatALgI
namespace Go.Lg
variable [GI]
set_option linter.unusedSectionVars false
set_option linter.unusedVariables false
set_option linter.unusedSimpArgs false
open Go.RowKit

/-- What a closure that lies in a box has captured, frozen: a pointer to what is boxed and plain. -/
def capF (H : List Blk) : LV → Option LV
  | .hp id _ path => match H[id]? with
    | some (.box c) => match getP c path with
      | some x => match isPure x with | true => some (.ref x) | false => none
      | none => none
    | _ => none
  | .ref c => some (.ref c)
  | _ => none
def capFs (H : List Blk) : List LV → Option (List LV)
  | [] => some []
  | x :: xs => match capF H x with
    | some y => match capFs H xs with | some ys => some (y :: ys) | none => none
    | none => none

mutual
/-- Lent as frozen: no handle is left. -/
def lend0 (H : List Blk) : LV → (LV → Bool → Prop) → Prop
  | .hs id n, K => match H[id]? with | some (.arr _ _ xs) => n = xs.length ∧ K (.sl xs) true | some (.tree _ _ xs) => n = xs.length ∧ ∃ ys, dms xs = ys ∧ K (.sl ys) true | _ => False
  | .nil, K => K (.sl []) false
  | .st fs, K => lend0s H fs fun fs' h => K (.st fs') h
  | .int k n, K => K (.int k n) false
  | .bool b, K => K (.bool b) false
  | .lit b, K => K (.lit b) false
  | .str s, K => K (.str s) false
  | .sl xs, K => K (.sl xs) false
  | .ref c, K => K (.ref c) false
  | .clos f c, K => match capFs H c with | some c' => K (.clos f c') true | none => False
  | .ifc t fs, K => lend0s H fs fun fs' h => K (.ifc t fs') h
  | _, _ => False
def lend0s (H : List Blk) : List LV → (List LV → Bool → Prop) → Prop
  | [], K => K [] false
  | x :: xs, K => lend0 H x fun y h => lend0s H xs fun ys h' => K (y :: ys) (h || h')
end

mutual
/-- The same, a pointer to what is boxed and a closure over such among them. -/
def lend1 (H : List Blk) : LV → (LV → Bool → Prop) → Prop
  | .hs id n, K => lend0 H (.hs id n) K
  | .nil, K => lend0 H .nil K
  | .st fs, K => lend0s H fs fun fs' h => K (.st fs') h
  | .int k n, K => K (.int k n) false
  | .bool b, K => K (.bool b) false
  | .lit b, K => K (.lit b) false
  | .str s, K => K (.str s) false
  | .sl xs, K => K (.sl xs) false
  | .ref c, K => K (.ref c) false
  | .clos f c, K => lends H c fun c' h => K (.clos f c') h
  | .ifc t fs, K => lend0s H fs fun fs' h => K (.ifc t fs') h
  | .hp id _ path, K => match H[id]? with
    | some (.box c) => match getP c path with
      | some x => lend0 H x fun y _ => K (.ref y) true
      | none => False
    | _ => False
  | _, _ => False
def lends (H : List Blk) : List LV → (List LV → Bool → Prop) → Prop
  | [], K => K [] false
  | x :: xs, K => lend1 H x fun y h => lends H xs fun ys h' => K (y :: ys) (h || h')
end

section
variable {X : Nat → Prop} {B : Nat} {W0 : Orig} {H : List Blk} {pl : Nat → PV} {w : World}

/-- Lent to a callee: a reading without handles. -/
def Lent (X : Nat → Prop) (H : List Blk) (pl : Nat → PV) (w : World) (y : LV) (h : Bool) (cs : List Value) : Prop :=
  RC (pctx (fun _ => False) w) y cs ∧ (h = false → RC (pctx (owned X H pl) w) y cs)
def Lents (X : Nat → Prop) (H : List Blk) (pl : Nat → PV) (w : World) (ys : List LV) (h : Bool) (cs : List Value) : Prop :=
  RCs (pctx (fun _ => False) w) ys cs ∧ (h = false → RCs (pctx (owned X H pl) w) ys cs)

theorem free_le (O : Nat → Prop) (w : World) : (pctx O w).Le (pctx (fun _ => False) w) :=
  ⟨Nat.le_refl _, fun _ _ _ => rfl, fun _ _ h => h.elim, fun _ _ _ h => h, fun _ _ _ _ h => h⟩

theorem Lent.of {y : LV} {cs : List Value} (h : RC (pctx (owned X H pl) w) y cs) : Lent X H pl w y false cs := ⟨RC.mono (free_le _ w) _ _ h, fun _ => h⟩

def isSt : LV → Bool | .st _ => true | _ => false

theorem capF_sound (g : Good X B W0 H pl w) {x y : LV} {cs : List Value} (h : RC (ctx X H pl w) x cs) (k : capF H x = some y) : RC (pctx (fun _ => False) w) y cs := by
  cases x <;> simp only [capF] at k <;> try cases k
  case ref c => exact RC.mono (free_le (owned X H pl) w) _ _ (by simp only [RC] at h ⊢; exact h)
  case hp id n path =>
    simp only [RC] at h
    obtain ⟨v, rfl, h⟩ := h
    split at k
    · rename_i c hc
      split at k
      · rename_i x hx
        split at k
        · rename_i hp
          cases k
          obtain ⟨o, es, rfl, e2, e3⟩ := load_placeG g h (.inl ⟨c, hc, hx⟩)
          have e4 := RC_pure e3 hp
          simp only [RC]
          refine ⟨_, es, rfl, ?_, fun o => o, RC.mono (free_le (owned X H pl) w).pure _ _ e4, e2⟩
          obtain ⟨b, es', ty, e4, e5, e6, _⟩ := g.ok id _ hc
          rw [e4]
          show b < w.heap.size
          rcases Nat.lt_or_ge b w.heap.size with h | h
          · exact h
          · have e6' : w.heap[b]? = some (.cells es'.toArray ty (0, 0)) := e6
            simp [Array.getElem?_eq_none h] at e6'
        · cases k
      · cases k
    · cases k
theorem capFs_sound (g : Good X B W0 H pl w) : ∀ (xs ys : List LV) (cs : List Value), RCs (ctx X H pl w) xs cs → capFs H xs = some ys → RCs (pctx (fun _ => False) w) ys cs
  | [], ys, cs, h, k => by
    simp only [capFs] at k
    cases k
    simp only [RCs] at h ⊢
    exact h
  | x :: xs, ys, cs, h, k => by
    simp only [RCs] at h
    obtain ⟨c1, c2, rfl, h1, h2⟩ := h
    simp only [capFs] at k
    split at k
    · rename_i y hy
      split at k
      · rename_i zs hz
        cases k
        simp only [RCs]
        exact ⟨c1, c2, rfl, capF_sound g h1 hy, capFs_sound g xs zs c2 h2 hz⟩
      · cases k
    · cases k

theorem tree_frozen {O : Nat → Prop} {e : TypeId} {kk : Nat} {xs : List LV} {id : Nat} (h : BlkOK B (ctx X H pl w) (pl id) (.tree e kk xs)) (hO : ∀ b, O b → owned X H pl b) (hno : ∀ b ∈ (Blk.tree e kk xs).feet (pl id), ¬ O b) :
    RC (pctx O w) (.sl (dms xs)) [(pl id).v] := by
  obtain ⟨es, r1, r2, r3, r4⟩ := h
  simp only [RC]
  have hl : (dms xs).length = xs.length := dms_length xs
  have hes : RCs (pctx O w) (dms xs) es := RRcs_dmO hO xs es _ (fun b hb => hno b (List.mem_append_right _ hb)) r2
  rcases r1.2 with ⟨hv, hn⟩ | ⟨gg, cap, cur, hv, hg, hcur, hc1, hc2, _⟩
  · have : xs = [] := List.eq_nil_of_length_eq_zero hn
    subst this
    exact ⟨none, 0, by rw [hv]; rfl, Nat.le_refl _, Nat.zero_le _, .inl rfl⟩
  · refine ⟨_, cap, by rw [hv, hl], by rw [hl]; exact hc1, hc2, .inr ⟨⟨gg, 0, none⟩, es, kk, rfl, ?_, fun o => hno gg ?_ o, hes, ?_, dms_sizes r3⟩⟩
    · show gg < w.heap.size
      rcases Nat.lt_or_ge gg w.heap.size with h | h
      · exact h
      · have hcur' : w.heap[gg]? = some (.cells cur e (0, 0)) := hcur
        simp [Array.getElem?_eq_none h] at hcur'
    · exact Blk.feet_head (mem_feet.2 ⟨by rw [hv]; rfl, by rw [hv]; rfl⟩)
    · by_cases he : es = []
      · subst he; exact ⟨rfl, fun j u hu => by simp at hu⟩
      · have := (CellsAt_row (w := w) r1 he).2
        rw [hv] at this
        exact this

mutual
theorem lend0_sound (g : Good X B W0 H pl w) : ∀ (x : LV) (K : LV → Bool → Prop) (cs : List Value), RC (ctx X H pl w) x cs → lend0 H x K → ∃ y h, K y h ∧ Lent X H pl w y h cs ∧ isSt y = isSt x
  | .hs id n, K, cs, h, k => by
    simp only [RC] at h
    obtain ⟨v, rfl, h1, h2, h3⟩ := h
    simp only [lend0] at k
    split at k
    · rename_i e kk xs hc
      obtain ⟨k1, k2⟩ := k
      refine ⟨_, _, k2, ⟨?_, fun h => by cases h⟩, rfl⟩
      obtain ⟨es, r1, r2, r3, r4⟩ := g.ok id _ hc
      have hu := h3 _ xs hc rfl k1
      subst hu
      simp only [RC]
      rcases r1.2 with ⟨hv, hn⟩ | ⟨gg, cap, cur, hv, hg, hcur, hc1, hc2, _⟩
      · have : xs = [] := List.eq_nil_of_length_eq_zero hn
        subst this
        exact ⟨none, 0, by rw [hv]; rfl, Nat.le_refl _, Nat.zero_le _, .inl rfl⟩
      · refine ⟨_, cap, by rw [hv], hc1, hc2, .inr ⟨⟨gg, 0, none⟩, es, kk, rfl, ?_, fun o => o, ?_, ?_, r3⟩⟩
        · show gg < w.heap.size
          rcases Nat.lt_or_ge gg w.heap.size with h | h
          · exact h
          · have hcur' : w.heap[gg]? = some (.cells cur e (0, 0)) := hcur
            simp [Array.getElem?_eq_none h] at hcur'
        · exact RCs.mono (free_le (owned X H pl) w) _ _ r2
        · by_cases he : es = []
          · subst he; exact ⟨rfl, fun j u hu => by simp at hu⟩
          · have := (CellsAt_row (w := w) r1 he).2
            rw [hv] at this
            exact this
    · rename_i e kk xs hc
      obtain ⟨k1, ys, rfl, k2⟩ := k
      refine ⟨_, _, k2, ⟨?_, fun h => by cases h⟩, rfl⟩
      have hu := h3 _ xs hc rfl k1
      subst hu
      exact tree_frozen (O := fun _ => False) (g.ok id _ hc) (fun b o => o.elim) fun b _ o => o
    · exact k.elim
  | .nil, K, cs, h, k => by
    simp only [RC] at h
    simp only [lend0] at k
    subst h
    exact ⟨_, _, k, .of (by simp only [RC]; exact ⟨none, 0, by simp, Nat.le_refl _, Nat.zero_le _, .inl (by simp)⟩), rfl⟩
  | .st fs, K, cs, h, k => by
    rw [RC_st] at h
    simp only [lend0] at k
    obtain ⟨ys, hh, k1, k2⟩ := lend0s_sound g fs _ cs h k
    exact ⟨_, _, k1, ⟨RC_st.2 k2.1, fun e => RC_st.2 (k2.2 e)⟩, rfl⟩
  | .int a b, K, cs, h, k => by simp only [lend0] at k; exact ⟨_, _, k, .of (by simp only [RC] at h ⊢; exact h), rfl⟩
  | .bool b, K, cs, h, k => by simp only [lend0] at k; exact ⟨_, _, k, .of (by simp only [RC] at h ⊢; exact h), rfl⟩
  | .lit b, K, cs, h, k => by simp only [lend0] at k; exact ⟨_, _, k, .of (by simp only [RC] at h ⊢; exact h), rfl⟩
  | .str s, K, cs, h, k => by simp only [lend0] at k; exact ⟨_, _, k, .of (by simp only [RC] at h ⊢; exact h), rfl⟩
  | .sl xs, K, cs, h, k => by simp only [lend0] at k; exact ⟨_, _, k, .of (by simp only [RC] at h ⊢; exact h), rfl⟩
  | .ref c, K, cs, h, k => by simp only [lend0] at k; exact ⟨_, _, k, .of (by simp only [RC] at h ⊢; exact h), rfl⟩
  | .clos f c, K, cs, h, k => by
    simp only [lend0] at k
    simp only [RC] at h
    obtain ⟨vs, rfl, h⟩ := h
    split at k
    · rename_i c' hc
      exact ⟨_, _, k, ⟨by simp only [RC]; exact ⟨vs, rfl, capFs_sound g c c' _ h hc⟩, fun e => by cases e⟩, rfl⟩
    · exact k.elim
  | .ifc t fs, K, cs, h, k => by
    simp only [lend0] at k
    simp only [RC] at h
    obtain ⟨vs, rfl, h⟩ := h
    obtain ⟨ys, hh, k1, k2⟩ := lend0s_sound g fs _ _ h k
    exact ⟨_, _, k1, ⟨by simp only [RC]; exact ⟨vs, rfl, k2.1⟩, fun e => by simp only [RC]; exact ⟨vs, rfl, k2.2 e⟩⟩, rfl⟩
  | .undef, _, _, _, k => by simp [lend0] at k
  | .own _ _ _, _, _, _, k => by simp [lend0] at k
  | .tup _, _, _, _, k => by simp [lend0] at k
  | .hp _ _ _, _, _, _, k => by simp [lend0] at k
theorem lend0s_sound (g : Good X B W0 H pl w) : ∀ (xs : List LV) (K : List LV → Bool → Prop) (cs : List Value), RCs (ctx X H pl w) xs cs → lend0s H xs K → ∃ ys h, K ys h ∧ Lents X H pl w ys h cs
  | [], K, cs, h, k => by
    simp only [RCs] at h
    simp only [lend0s] at k
    exact ⟨_, _, k, by simp only [RCs]; exact h, fun _ => by simp only [RCs]; exact h⟩
  | x :: xs, K, cs, h, k => by
    simp only [RCs] at h
    obtain ⟨c1, c2, rfl, h1, h2⟩ := h
    simp only [lend0s] at k
    obtain ⟨y, hy, k1, k2, _⟩ := lend0_sound g x _ c1 h1 k
    obtain ⟨ys, hys, k3, k4⟩ := lend0s_sound g xs _ c2 h2 k1
    refine ⟨_, _, k3, by simp only [RCs]; exact ⟨c1, c2, rfl, k2.1, k4.1⟩, fun e => ?_⟩
    simp only [Bool.or_eq_false_iff] at e
    simp only [RCs]
    exact ⟨c1, c2, rfl, k2.2 e.1, k4.2 e.2⟩
end

mutual
theorem lend1_sound (g : Good X B W0 H pl w) : ∀ (x : LV) (K : LV → Bool → Prop) (cs : List Value), RC (ctx X H pl w) x cs → lend1 H x K → ∃ y h, K y h ∧ Lent X H pl w y h cs ∧ isSt y = isSt x
  | .hs id n, K, cs, h, k => lend0_sound g _ K cs h (by simpa only [lend1] using k)
  | .nil, K, cs, h, k => lend0_sound g _ K cs h (by simpa only [lend1] using k)
  | .st fs, K, cs, h, k => lend0_sound g (.st fs) K cs h (by simpa only [lend1, lend0] using k)
  | .int a b, K, cs, h, k => lend0_sound g (.int a b) K cs h (by simpa only [lend1, lend0] using k)
  | .bool b, K, cs, h, k => lend0_sound g (.bool b) K cs h (by simpa only [lend1, lend0] using k)
  | .lit b, K, cs, h, k => lend0_sound g (.lit b) K cs h (by simpa only [lend1, lend0] using k)
  | .str s, K, cs, h, k => lend0_sound g (.str s) K cs h (by simpa only [lend1, lend0] using k)
  | .sl xs, K, cs, h, k => lend0_sound g (.sl xs) K cs h (by simpa only [lend1, lend0] using k)
  | .ref c, K, cs, h, k => lend0_sound g (.ref c) K cs h (by simpa only [lend1, lend0] using k)
  | .clos f c, K, cs, h, k => by
    simp only [RC] at h
    obtain ⟨vs, rfl, h⟩ := h
    simp only [lend1] at k
    obtain ⟨ys, hh, k1, k2⟩ := lends_sound g c _ _ h k
    exact ⟨_, _, k1, ⟨by simp only [RC]; exact ⟨vs, rfl, k2.1⟩, fun e => by simp only [RC]; exact ⟨vs, rfl, k2.2 e⟩⟩, rfl⟩
  | .ifc t fs, K, cs, h, k => lend0_sound g (.ifc t fs) K cs h (by simpa only [lend1, lend0] using k)
  | .hp id n path, K, cs, h, k => by
    simp only [RC] at h
    obtain ⟨v, rfl, h⟩ := h
    simp only [lend1] at k
    split at k
    · rename_i c hc
      split at k
      · rename_i x hx
        obtain ⟨o, es, rfl, e2, e3⟩ := load_placeG g h (.inl ⟨c, hc, hx⟩)
        obtain ⟨y, hy, k1, k2, _⟩ := lend0_sound g x _ es e3 k
        refine ⟨_, _, k1, ⟨?_, fun e => by cases e⟩, rfl⟩
        simp only [RC]
        refine ⟨_, es, rfl, ?_, fun o => o, k2.1, e2⟩
        obtain ⟨b, es', ty, e4, e5, e6, _⟩ := g.ok id _ hc
        rw [e4]
        show b < w.heap.size
        rcases Nat.lt_or_ge b w.heap.size with h | h
        · exact h
        · have e6' : w.heap[b]? = some (.cells es'.toArray ty (0, 0)) := e6
          simp [Array.getElem?_eq_none h] at e6'
      · exact k.elim
    · exact k.elim
  | .undef, _, _, _, k => by simp [lend1] at k
  | .own _ _ _, _, _, _, k => by simp [lend1] at k
  | .tup _, _, _, _, k => by simp [lend1] at k
theorem lends_sound (g : Good X B W0 H pl w) : ∀ (xs : List LV) (K : List LV → Bool → Prop) (cs : List Value), RCs (ctx X H pl w) xs cs → lends H xs K → ∃ ys h, K ys h ∧ Lents X H pl w ys h cs
  | [], K, cs, h, k => by
    simp only [RCs] at h
    simp only [lends] at k
    exact ⟨_, _, k, by simp only [RCs]; exact h, fun _ => by simp only [RCs]; exact h⟩
  | x :: xs, K, cs, h, k => by
    simp only [RCs] at h
    obtain ⟨c1, c2, rfl, h1, h2⟩ := h
    simp only [lends] at k
    obtain ⟨y, hy, k1, k2, _⟩ := lend1_sound g x _ c1 h1 k
    obtain ⟨ys, hys, k3, k4⟩ := lends_sound g xs _ c2 h2 k1
    refine ⟨_, _, k3, by simp only [RCs]; exact ⟨c1, c2, rfl, k2.1, k4.1⟩, fun e => ?_⟩
    simp only [Bool.or_eq_false_iff] at e
    simp only [RCs]
    exact ⟨c1, c2, rfl, k2.2 e.1, k4.2 e.2⟩
end

/-- The same of a whole temporary. -/
theorem lend_RT (g : Good X B W0 H pl w) {x : LV} {K : LV → Bool → Prop} {v : Value} (h : RT (ctx X H pl w) x v) (k : lend1 H x K) :
    ∃ y b, K y b ∧ RT (pctx (fun _ => False) w) y v ∧ (b = false → RT (pctx (owned X H pl) w) y v) := by
  have hb : okBox x = true := by cases x <;> first | rfl | (simp [lend1] at k)
  by_cases hst : ∃ fs, x = .st fs
  · obtain ⟨fs, rfl⟩ := hst
    obtain ⟨cs, rfl, h1⟩ := h
    simp only [lend1] at k
    obtain ⟨ys, b, k1, k2⟩ := lend0s_sound g fs _ _ h1 k
    exact ⟨_, _, k1, ⟨cs, rfl, k2.1⟩, fun e => ⟨cs, rfl, k2.2 e⟩⟩
  · have h1 : RC (ctx X H pl w) x [v] := by
      cases x <;> first | (exact absurd ⟨_, rfl⟩ hst) | (cases hb; done) | exact h
    obtain ⟨y, b, k1, k2, k3⟩ := lend1_sound g x K [v] h1 k
    have hy : ∀ {ρ : Ctx}, RC ρ y [v] → RT ρ y v := by
      intro ρ hr
      cases y <;> first
        | exact True.intro
        | (simp only [RC] at hr; done)
        | exact hr
        | (cases x <;> first | (exact absurd ⟨_, rfl⟩ hst) | (cases k3; done))
    exact ⟨y, b, k1, hy k2.1, fun e => hy (k2.2 e)⟩

end
mutual
theorem lend0_ex {H : List Blk} : ∀ (x : LV) (K : LV → Bool → Prop), lend0 H x K → ∃ y b, K y b ∧ ∀ K' : LV → Bool → Prop, K' y b → lend0 H x K'
  | .hs id n, K, h => by
    simp only [lend0] at h ⊢
    cases hc : H[id]? with
    | none => rw [hc] at h; exact h.elim
    | some b =>
      rw [hc] at h
      cases b with
      | row t e k xs =>
        cases t with
        | false => exact ⟨_, _, h.2, fun _ h' => ⟨h.1, h'⟩⟩
        | true => obtain ⟨h1, ys, h2, h3⟩ := h; exact ⟨_, _, h3, fun _ h' => ⟨h1, ys, h2, h'⟩⟩
      | _ => exact h.elim
  | .st fs, K, h => by
    simp only [lend0] at h ⊢
    obtain ⟨ys, b, h1, h2⟩ := lend0s_ex fs _ h
    exact ⟨_, _, h1, fun K' h' => h2 _ h'⟩
  | .nil, K, h => by simp only [lend0] at h ⊢; exact ⟨_, _, h, fun _ h => h⟩
  | .int _ _, K, h => by simp only [lend0] at h ⊢; exact ⟨_, _, h, fun _ h => h⟩
  | .bool _, K, h => by simp only [lend0] at h ⊢; exact ⟨_, _, h, fun _ h => h⟩
  | .lit _, K, h => by simp only [lend0] at h ⊢; exact ⟨_, _, h, fun _ h => h⟩
  | .str _, K, h => by simp only [lend0] at h ⊢; exact ⟨_, _, h, fun _ h => h⟩
  | .sl _, K, h => by simp only [lend0] at h ⊢; exact ⟨_, _, h, fun _ h => h⟩
  | .ref _, K, h => by simp only [lend0] at h ⊢; exact ⟨_, _, h, fun _ h => h⟩
  | .clos f c, K, h => by
    simp only [lend0] at h ⊢
    cases hc : capFs H c with
    | none => rw [hc] at h; exact h.elim
    | some c' => rw [hc] at h; exact ⟨_, _, h, fun _ h => h⟩
  | .ifc t fs, K, h => by
    simp only [lend0] at h ⊢
    obtain ⟨ys, b, h1, h2⟩ := lend0s_ex fs _ h
    exact ⟨_, _, h1, fun K' h' => h2 _ h'⟩
  | .undef, K, h => by simp [lend0] at h
  | .own _ _ _, K, h => by simp [lend0] at h
  | .tup _, K, h => by simp [lend0] at h
  | .hp _ _ _, K, h => by simp [lend0] at h
theorem lend0s_ex {H : List Blk} : ∀ (xs : List LV) (K : List LV → Bool → Prop), lend0s H xs K → ∃ ys b, K ys b ∧ ∀ K' : List LV → Bool → Prop, K' ys b → lend0s H xs K'
  | [], K, h => by simp only [lend0s] at h ⊢; exact ⟨_, _, h, fun _ h => h⟩
  | x :: xs, K, h => by
    simp only [lend0s] at h ⊢
    obtain ⟨y, b, h1, h2⟩ := lend0_ex x _ h
    obtain ⟨ys, b', h3, h4⟩ := lend0s_ex xs _ h1
    exact ⟨_, _, h3, fun K' h' => h2 _ (h4 _ h')⟩
end

mutual
theorem lend1_ex {H : List Blk} : ∀ (x : LV) (K : LV → Bool → Prop), lend1 H x K → ∃ y b, K y b ∧ ∀ K' : LV → Bool → Prop, K' y b → lend1 H x K'
  | .hs id n, K, h => by simp only [lend1] at h ⊢; exact lend0_ex _ K h
  | .nil, K, h => by simp only [lend1] at h ⊢; exact lend0_ex _ K h
  | .st fs, K, h => by
    simp only [lend1] at h ⊢
    obtain ⟨ys, b, h1, h2⟩ := lend0s_ex fs _ h
    exact ⟨_, _, h1, fun K' h' => h2 _ h'⟩
  | .int _ _, K, h => by simp only [lend1] at h ⊢; exact ⟨_, _, h, fun _ h => h⟩
  | .bool _, K, h => by simp only [lend1] at h ⊢; exact ⟨_, _, h, fun _ h => h⟩
  | .lit _, K, h => by simp only [lend1] at h ⊢; exact ⟨_, _, h, fun _ h => h⟩
  | .str _, K, h => by simp only [lend1] at h ⊢; exact ⟨_, _, h, fun _ h => h⟩
  | .sl _, K, h => by simp only [lend1] at h ⊢; exact ⟨_, _, h, fun _ h => h⟩
  | .ref _, K, h => by simp only [lend1] at h ⊢; exact ⟨_, _, h, fun _ h => h⟩
  | .clos f c, K, h => by
    simp only [lend1] at h ⊢
    obtain ⟨ys, b, h1, h2⟩ := lends_ex c _ h
    exact ⟨_, _, h1, fun K' h' => h2 _ h'⟩
  | .ifc t fs, K, h => by
    simp only [lend1] at h ⊢
    obtain ⟨ys, b, h1, h2⟩ := lend0s_ex fs _ h
    exact ⟨_, _, h1, fun K' h' => h2 _ h'⟩
  | .hp id n path, K, h => by
    simp only [lend1] at h ⊢
    cases hc : H[id]? with
    | none => rw [hc] at h; exact h.elim
    | some b =>
      rw [hc] at h
      cases b <;> simp only at h ⊢ <;> try exact h.elim
      rename_i c
      cases hx : getP c path with
      | none => rw [hx] at h; exact h.elim
      | some x =>
        rw [hx] at h
        simp only at h ⊢
        obtain ⟨y, b, h1, h2⟩ := lend0_ex x _ h
        exact ⟨_, _, h1, fun K' h' => h2 _ h'⟩
  | .undef, K, h => by simp [lend1] at h
  | .own _ _ _, K, h => by simp [lend1] at h
  | .tup _, K, h => by simp [lend1] at h
theorem lends_ex {H : List Blk} : ∀ (xs : List LV) (K : List LV → Bool → Prop), lends H xs K → ∃ ys b, K ys b ∧ ∀ K' : List LV → Bool → Prop, K' ys b → lends H xs K'
  | [], K, h => by simp only [lends] at h ⊢; exact ⟨_, _, h, fun _ h => h⟩
  | x :: xs, K, h => by
    simp only [lends] at h ⊢
    obtain ⟨y, b, h1, h2⟩ := lend1_ex x _ h
    obtain ⟨ys, b', h3, h4⟩ := lends_ex xs _ h1
    exact ⟨_, _, h3, fun K' h' => h2 _ (h4 _ h')⟩
end

end Go.Lg

