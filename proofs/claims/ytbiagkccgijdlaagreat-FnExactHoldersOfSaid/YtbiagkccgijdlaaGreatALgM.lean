/- A function's contract, out of its code. -/
import Derived.Test.YtbiagkccgijdlaaGreatALgL
namespace Go.Lg
variable [GI]
set_option linter.unusedSectionVars false
set_option linter.unusedVariables false
set_option linter.unusedSimpArgs false
open Go.RowKit

mutual
/-- Handed out: 'x' as what the contract says, with the ids of the rows that go with it. -/
def exW (H : List Blk) : LV → LV → (List Nat → Prop) → Prop
  | .hs id n, .own e k ys, K => match H[id]? with | some (.arr e' k' xs) => n = xs.length ∧ e' = e ∧ k' = k ∧ xs = ys ∧ K [id] | _ => False
  | .nil, .own _ k ys, K => 0 < k ∧ ys = [] ∧ K []
  | .nil, .sl ys, K => ys = [] ∧ K []
  | .nil, .nil, K => K []
  | .st fs, .st gs, K => exsW H fs gs K
  | .int k n, .int k' n', K => k = k' ∧ n = n' ∧ K []
  | .bool b, .bool b', K => b = b' ∧ K []
  | .lit b, .lit b', K => b = b' ∧ K []
  | .str s, .str s', K => s = s' ∧ K []
  | .sl xs, .sl ys, K => xs = ys ∧ K []
  | .ref c, .ref d, K => c = d ∧ K []
  | _, _, _ => False
def exsW (H : List Blk) : List LV → List LV → (List Nat → Prop) → Prop
  | [], [], K => K []
  | x :: xs, y :: ys, K => exW H x y fun i => exsW H xs ys fun j => K (i ++ j)
  | _, _, _ => False
end

def blocksOf (pl : Nat → PV) (ids : List Nat) : List Nat := (ids.filter fun i => hasBk (pl i)).map fun i => bk (pl i)

theorem blocksOf_append (pl : Nat → PV) (i j : List Nat) : blocksOf pl (i ++ j) = blocksOf pl i ++ blocksOf pl j := by simp [blocksOf]

section
variable {X : Nat → Prop} {B : Nat} {W0 : Orig} {H : List Blk} {pl : Nat → PV} {w : World}

def liveIds (H : List Blk) (ids : List Nat) : Prop := ∀ i ∈ ids, ∃ blk, H[i]? = some blk ∧ blk.live

theorem pctx_le {O O' : Nat → Prop} (h : ∀ b, O' b → O b) : (pctx O w).Le (pctx O' w) := ⟨Nat.le_refl _, fun _ _ _ => rfl, fun b _ k => h b k, fun _ _ _ k => k, fun _ _ _ _ k => k⟩

mutual
theorem exW_sound (g : Good X B W0 H pl w) : ∀ (x r : LV) (K : List Nat → Prop) (cs : List Value), RC (ctx X H pl w) x cs → exW H x r K →
    ∃ ids, K ids ∧ liveIds H ids ∧ ∀ O' : Nat → Prop, (∀ b, O' b → owned X H pl b) → RRc w O' B r cs (blocksOf pl ids)
  | x, r, K, cs, h, k => by
    cases x <;> cases r <;> simp only [exW] at k <;> try exact k.elim
    case int.int a b c d => obtain ⟨rfl, rfl, k⟩ := k; exact ⟨[], k, by simp [liveIds], fun O' _ => by simp only [RRc]; simp only [RC] at h ⊢; exact ⟨h, rfl⟩⟩
    case lit.lit b c => obtain ⟨rfl, k⟩ := k; exact ⟨[], k, by simp [liveIds], fun O' _ => by simp only [RRc]; simp only [RC] at h ⊢; exact ⟨h, rfl⟩⟩
    case bool.bool b c => obtain ⟨rfl, k⟩ := k; exact ⟨[], k, by simp [liveIds], fun O' _ => by simp only [RRc]; simp only [RC] at h ⊢; exact ⟨h, rfl⟩⟩
    case str.str b c => obtain ⟨rfl, k⟩ := k; exact ⟨[], k, by simp [liveIds], fun O' _ => by simp only [RRc]; simp only [RC] at h ⊢; exact ⟨h, rfl⟩⟩
    case nil.nil => exact ⟨[], k, by simp [liveIds], fun O' _ => by simp only [RRc]; simp only [RC] at h ⊢; exact ⟨h, rfl⟩⟩
    case nil.sl ys =>
      obtain ⟨rfl, k⟩ := k
      refine ⟨[], k, by simp [liveIds], fun O' _ => ?_⟩
      simp only [RRc]
      simp only [RC] at h ⊢
      subst h
      exact ⟨⟨none, 0, by simp, by simp, by simp, .inl (by simp)⟩, rfl⟩
    case nil.own e kk ys =>
      obtain ⟨hk, rfl, k⟩ := k
      refine ⟨[], k, by simp [liveIds], fun O' _ => ?_⟩
      simp only [RRc]
      simp only [RC] at h
      subst h
      exact ⟨_, [], rfl, World.ownsRow_nil w B e kk, by simp only [RCs], by simp, hk, by simp [blocksOf, hasBk]⟩
    case sl.sl xs ys =>
      obtain ⟨rfl, k⟩ := k
      refine ⟨[], k, by simp [liveIds], fun O' hO => ?_⟩
      simp only [RRc]
      refine ⟨RC.mono (pctx_le (O := owned X H pl) hO) _ _ ?_, rfl⟩
      simp only [RC] at h ⊢; exact h
    case ref.ref xs ys =>
      obtain ⟨rfl, k⟩ := k
      refine ⟨[], k, by simp [liveIds], fun O' hO => ?_⟩
      simp only [RRc]
      refine ⟨RC.mono (pctx_le (O := owned X H pl) hO) _ _ ?_, rfl⟩
      simp only [RC] at h ⊢; exact h
    case st.st fs gs =>
      rw [RC_st] at h
      obtain ⟨ids, k1, k2, k3⟩ := exsW_sound g fs gs K cs h k
      exact ⟨ids, k1, k2, fun O' hO => by simp only [RRc]; exact k3 O' hO⟩
    case hs.own id n e kk ys =>
      simp only [RC] at h
      obtain ⟨v, rfl, h1, h2, h3⟩ := h
      split at k
      · rename_i e' k' xs hc
        obtain ⟨hn, rfl, rfl, rfl, k⟩ := k
        obtain rfl := h3 _ xs hc rfl hn
        obtain ⟨es, r1, r2, r3, r4⟩ := g.ok id _ hc
        refine ⟨[id], k, ?_, fun O' hO => ?_⟩
        · intro i hi; simp at hi; subst hi; exact ⟨_, hc, trivial⟩
        · simp only [RRc]
          refine ⟨_, es, rfl, r1, RCs.mono (pctx_le (O := owned X H pl) hO) _ _ r2, r3, r4, ?_⟩
          by_cases hb : hasBk (pl id) = true <;> simp [blocksOf, hb]
      · exact k.elim
theorem exsW_sound (g : Good X B W0 H pl w) : ∀ (xs rs : List LV) (K : List Nat → Prop) (cs : List Value), RCs (ctx X H pl w) xs cs → exsW H xs rs K →
    ∃ ids, K ids ∧ liveIds H ids ∧ ∀ O' : Nat → Prop, (∀ b, O' b → owned X H pl b) → RRcs w O' B rs cs (blocksOf pl ids)
  | [], [], K, cs, h, k => by
    simp only [exsW] at k
    simp only [RCs] at h
    exact ⟨[], k, by simp [liveIds], fun O' _ => by simp only [RRcs]; exact ⟨h, rfl⟩⟩
  | [], _ :: _, _, _, _, k => by simp [exsW] at k
  | _ :: _, [], _, _, _, k => by simp [exsW] at k
  | x :: xs, r :: rs, K, cs, h, k => by
    simp only [exsW] at k
    simp only [RCs] at h
    obtain ⟨c1, c2, rfl, h1, h2⟩ := h
    obtain ⟨i1, k1, k2, k3⟩ := exW_sound g x r _ c1 h1 k
    obtain ⟨i2, k4, k5, k6⟩ := exsW_sound g xs rs _ c2 h2 k1
    refine ⟨i1 ++ i2, k4, ?_, fun O' hO => ?_⟩
    · intro i hi
      rcases List.mem_append.1 hi with hi | hi
      · exact k2 i hi
      · exact k5 i hi
    · simp only [RRcs]
      exact ⟨c1, c2, _, _, rfl, blocksOf_append pl i1 i2, k3 O' hO, k6 O' hO⟩
end

theorem ex_RR1 (g : Good X B W0 H pl w) {x r : LV} {K : List Nat → Prop} {v : Value} (h : RT1 (ctx X H pl w) x v) (k : exW H x r K) :
    ∃ ids, K ids ∧ liveIds H ids ∧ ∀ O' : Nat → Prop, (∀ b, O' b → owned X H pl b) → RR1 w O' B r v (blocksOf pl ids) := by
  by_cases hst : isSt x = true
  · cases x <;> simp only [isSt] at hst <;> try cases hst
    cases r <;> simp only [exW] at k <;> try exact k.elim
    obtain ⟨cs, rfl, h1⟩ := h
    obtain ⟨ids, k1, k2, k3⟩ := exsW_sound g _ _ K _ h1 k
    exact ⟨ids, k1, k2, fun O' hO => ⟨cs, rfl, k3 O' hO⟩⟩
  · have h1 : RC (ctx X H pl w) x [v] := by
      cases x <;> first | (exact absurd rfl hst) | exact h | (simp only [exW] at k; done)
    obtain ⟨ids, k1, k2, k3⟩ := exW_sound g x r K _ h1 k
    refine ⟨ids, k1, k2, fun O' hO => ?_⟩
    have := k3 O' hO
    unfold RR1
    cases r <;> first
      | exact this
      | (cases x <;> simp only [exW] at k <;> first | exact k.elim | exact absurd rfl hst)

theorem exW_box {x r : LV} {K : List Nat → Prop} (h : exW H x r K) : okBox x = true := by
  cases x <;> first | rfl | (simp only [exW] at h)

theorem RT1_of {ρ : Ctx} {x : LV} {v : Value} (h : RT ρ x v) (k : okBox x = true) : RT1 ρ x v := by
  cases x <;> first | exact h | (simp [okBox] at k)

theorem ex_RRt (g : Good X B W0 H pl w) : ∀ (xs rs : List LV) (K : List Nat → Prop) (vs : List Value), vs.length = xs.length → (∀ (i : Nat) y u, xs[i]? = some y → vs[i]? = some u → RT (ctx X H pl w) y u) → exsW H xs rs K →
    ∃ ids, K ids ∧ liveIds H ids ∧ ∀ O' : Nat → Prop, (∀ b, O' b → owned X H pl b) → RRt w O' B rs vs (blocksOf pl ids)
  | [], [], K, vs, hl, h, k => by
    simp only [exsW] at k
    exact ⟨[], k, by simp [liveIds], fun O' _ => by simp only [RRt]; exact ⟨List.eq_nil_of_length_eq_zero hl, rfl⟩⟩
  | [], _ :: _, _, _, _, _, k => by simp [exsW] at k
  | _ :: _, [], _, _, _, _, k => by simp [exsW] at k
  | x :: xs, r :: rs, K, vs, hl, h, k => by
    cases vs with
    | nil => simp at hl
    | cons u us =>
      simp only [exsW] at k
      obtain ⟨i1, k1, k2, k3⟩ := ex_RR1 g (RT1_of (h 0 x u rfl rfl) (exW_box k)) k
      obtain ⟨i2, k4, k5, k6⟩ := ex_RRt g xs rs _ us (by simpa using hl) (fun i y z hy hz => h (i + 1) y z (by simpa using hy) (by simpa using hz)) k1
      refine ⟨i1 ++ i2, k4, ?_, fun O' hO => ?_⟩
      · intro i hi
        rcases List.mem_append.1 hi with hi | hi
        · exact k2 i hi
        · exact k5 i hi
      · simp only [RRt]
        exact ⟨u, us, _, _, rfl, blocksOf_append pl i1 i2, k3 O' hO, k6 O' hO⟩

theorem blocksOf_nodup (g : Good X B W0 H pl w) : ∀ (ids : List Nat), liveIds H ids → ids.Nodup → (blocksOf pl ids).Nodup
  | [], _, _ => by simp [blocksOf]
  | i :: ids, hl, hn => by
    simp only [List.nodup_cons] at hn
    have ih := blocksOf_nodup g ids (fun j hj => hl j (by simp [hj])) hn.2
    by_cases hb : hasBk (pl i) = true
    · have e : blocksOf pl (i :: ids) = bk (pl i) :: blocksOf pl ids := by simp [blocksOf, hb]
      rw [e, List.nodup_cons]
      refine ⟨fun hm => ?_, ih⟩
      simp only [blocksOf, List.mem_map, List.mem_filter] at hm
      obtain ⟨j, ⟨hj, hbj⟩, he⟩ := hm
      obtain ⟨bi, h1, l1⟩ := hl i (by simp)
      obtain ⟨bj, h2, l2⟩ := hl j (by simp [hj])
      have := g.inj1 h2 l2 h1 l1 hbj hb he
      subst this
      exact hn.1 hj
    · have e : blocksOf pl (i :: ids) = blocksOf pl ids := by simp [blocksOf, hb]
      rw [e]; exact ih

theorem blocksOf_owned {ids : List Nat} (hl : liveIds H ids) {b : Nat} (h : b ∈ blocksOf pl ids) : owned X H pl b := by
  simp only [blocksOf, List.mem_map, List.mem_filter] at h
  obtain ⟨j, ⟨hj, hbj⟩, he⟩ := h
  obtain ⟨bj, h2, l2⟩ := hl j hj
  exact .inr ⟨j, bj, h2, l2, Blk.feet_head (mem_feet.2 ⟨hbj, he⟩)⟩

end

theorem load_run {P : Program} {T : Tab} (hT : TabOK P T) {X : Nat → Prop} {B : Nat} {W0 : Orig} {ts : List LV} {H : List Blk} {a : Act} {pl : Nat → PV} {w : World} (s : Sim X B W0 ⟨ts, H⟩ a w pl)
    {t : TypeId} {x : Operand} {K : LV → Prop} (h : loadW T H t (ev ts x) K) : ∃ ad v y, a.eval x = .pointer (some ad) ∧ (loadVar t ad).run P w = .ok v w ∧ K y ∧ RT1 (ctx X H pl w) y v := by
  have hx := ev_sound s x
  unfold loadW at h
  cases hi : T t with
  | none => rw [hi] at h; exact h.elim
  | some i =>
    rw [hi] at h
    have hty := hT t i hi
    cases e : ev ts x <;> rw [e] at h <;> try exact h.elim
    case ref c =>
      rw [e] at hx
      simp only [RT, RT1, RC] at hx
      obtain ⟨ad, es, h1, h2, h3, h4, h5⟩ := hx
      simp at h1
      simp only at h
      split at h
      · rename_i hf
        obtain ⟨v, hv, _, h6⟩ := run_loadVar hty h4 hf h5
        exact ⟨ad, v, c, h1, hv, h, RT1.mono (Ctx.pure_le _) _ _ h6⟩
      · exact h.elim
    case hp id n path =>
      rw [e] at hx
      simp only [RT, RT1, RC] at hx
      obtain ⟨u, h1, h2⟩ := hx
      simp at h1
      subst h1
      have fin : ∀ {y : LV}, ((∃ c, H[id]? = some (.box c) ∧ getP c path = some y) ∨ (∃ e k xs, H[id]? = some (.arr e k xs) ∧ n = xs.length ∧ path ≠ [] ∧ getP (.st xs) path = some y) ∨
          (∃ e k xs, H[id]? = some (.tree e k xs) ∧ n = xs.length ∧ path ≠ [] ∧ getP (.st xs) path = some y ∧ noOwn y = true)) →
          fitT i y = true → K y → ∃ ad v y, a.eval x = .pointer (some ad) ∧ (loadVar t ad).run P w = .ok v w ∧ K y ∧ RT1 (ctx X H pl w) y v := by
        intro y hy hf hk
        obtain ⟨o', es, h3, h4, h5⟩ := load_place s h2 hy
        obtain ⟨v, hv, _, h6⟩ := run_loadVar hty h5 hf h4
        exact ⟨_, v, y, h3, hv, hk, h6⟩
      simp only at h
      split at h
      · rename_i c hc
        obtain ⟨y, h3, h4, h5⟩ := h
        exact fin (.inl ⟨c, hc, h3⟩) h4 h5
      · rename_i e' k xs hc
        obtain ⟨hn, hne, y, h3, h4, h5⟩ := h
        exact fin (.inr (.inl ⟨e', k, xs, hc, hn, hne, h3⟩)) h4 h5
      · rename_i e' k xs hc
        obtain ⟨hn, hne, y, h3, ho, h4, h5⟩ := h
        exact fin (.inr (.inr ⟨e', k, xs, hc, hn, hne, h3, ho⟩)) h4 h5
      · exact h.elim

/-- What the results read as, against the contract. -/
def retW (E : Env) (rvs : List ResultVar) (ts : List LV) (H : List Blk) (r : LV) : Prop :=
  match rvs with
  | [] => r = .tup []
  | [.tmp t] => exW H (ev ts (.tmp t)) r fun ids => ids.Nodup
  | [.tmp t, .tmp u] => match r with
    | .tup rs => exsW H [ev ts (.tmp t), ev ts (.tmp u)] rs fun ids => ids.Nodup
    | _ => False
  | [.tmp t, .tmp u, .tmp v] => match r with
    | .tup rs => exsW H [ev ts (.tmp t), ev ts (.tmp u), ev ts (.tmp v)] rs fun ids => ids.Nodup
    | _ => False
  | [.cell b t] => loadW E.T H t (ev ts (.tmp b)) fun x => exW H x r fun ids => ids.Nodup
  | [.cell b t, .tmp u] => loadW E.T H t (ev ts (.tmp b)) fun x => match r with
    | .tup rs => exsW H [x, ev ts (.tmp u)] rs fun ids => ids.Nodup
    | _ => False
  | _ => False

section
variable {E : Env} {X : Nat → Prop} {B : Nat} {W0 : Orig} {ts : List LV} {H : List Blk} {a : Act} {pl : Nat → PV} {w : World}

theorem Res_mk (s : Sim X B W0 ⟨ts, H⟩ a w pl) {ids : List Nat} {r : LV} {v : Value} (h1 : liveIds H ids) (h2 : ids.Nodup)
    (h3 : ∀ O' : Nat → Prop, (∀ b, O' b → owned X H pl b) → RR w O' B r v (blocksOf pl ids)) : Res B X w r v :=
  ⟨blocksOf pl ids, blocksOf_nodup s.good ids h1 h2, h3 _ fun _ hb => hb.elim .inl (blocksOf_owned h1)⟩

theorem RR_of1 {O : Nat → Prop} {r : LV} {v : Value} {bs : List Nat} (h : RR1 w O B r v bs) : RR w O B r v bs := by
  unfold RR
  cases r <;> first | exact h | (simp only [RR1, RRc] at h)

theorem retW_sound (hE : EnvOK E) (s : Sim X B W0 ⟨ts, H⟩ a w pl) {fn : Func} {r : LV} (h : retW E fn.results.toList ts H r) :
    ∃ v, (results fn a.tmps).run E.P w = .ok v w ∧ Res B X w r v := by
  have arr : ∀ {l : List ResultVar}, fn.results.toList = l → fn.results = l.toArray := fun e => by rw [← e]
  have tm : ∀ t, RT (ctx X H pl w) (ev ts (.tmp t)) (a.tmps.getD t undef) := fun t => ev_sound s (.tmp t)
  unfold retW at h
  split at h
  · rename_i e
    subst h
    refine ⟨.tuple #[], results_none (arr e) _ _ _, Res_mk s (ids := []) (by simp [liveIds]) (by simp) fun O' _ => ?_⟩
    exact ⟨#[], rfl, rfl, by simp [blocksOf]⟩
  · rename_i t e
    obtain ⟨ids, k1, k2, k3⟩ := ex_RR1 s.good (RT1_of (tm t) (exW_box h)) h
    exact ⟨_, results_tmp (arr e) _ _ _, Res_mk s k2 k1 fun O' hO => RR_of1 (k3 O' hO)⟩
  · rename_i t u e
    split at h
    · rename_i rs
      obtain ⟨ids, k1, k2, k3⟩ := ex_RRt s.good _ rs _ [a.tmps.getD t undef, a.tmps.getD u undef] rfl (fun i y v hy hv => by
        match i with
        | 0 => simp only [List.getElem?_cons_zero, Option.some.injEq] at hy hv; subst hy; subst hv; exact tm t
        | 1 => simp only [List.getElem?_cons_zero, List.getElem?_cons_succ, Option.some.injEq] at hy hv; subst hy; subst hv; exact tm u
        | i + 2 => simp at hy) h
      exact ⟨_, results_tmp2 (arr e) _ _ _, Res_mk s k2 k1 fun O' hO => ⟨_, rfl, k3 O' hO⟩⟩
    · exact h.elim
  · rename_i t u q e
    split at h
    · rename_i rs
      obtain ⟨ids, k1, k2, k3⟩ := ex_RRt s.good _ rs _ [a.tmps.getD t undef, a.tmps.getD u undef, a.tmps.getD q undef] rfl (fun i y v hy hv => by
        match i with
        | 0 => simp only [List.getElem?_cons_zero, Option.some.injEq] at hy hv; subst hy; subst hv; exact tm t
        | 1 => simp only [List.getElem?_cons_zero, List.getElem?_cons_succ, Option.some.injEq] at hy hv; subst hy; subst hv; exact tm u
        | 2 => simp only [List.getElem?_cons_zero, List.getElem?_cons_succ, Option.some.injEq] at hy hv; subst hy; subst hv; exact tm q
        | i + 3 => simp at hy) h
      exact ⟨.tuple #[a.tmps.getD t undef, a.tmps.getD u undef, a.tmps.getD q undef], by simp [results, arr e], Res_mk s k2 k1 fun O' hO => ⟨_, rfl, k3 O' hO⟩⟩
    · exact h.elim
  · rename_i b t e
    obtain ⟨ad, v, y, h1, h2, h3, h4⟩ := load_run hE.t s h
    obtain ⟨ids, k1, k2, k3⟩ := ex_RR1 s.good h4 h3
    refine ⟨v, ?_, Res_mk s k2 k1 fun O' hO => RR_of1 (k3 O' hO)⟩
    have h1' : a.tmps.getD b undef = .pointer (some ad) := h1
    rw [Array.getD_eq_getD_getElem?] at h1'
    simp [results, arr e, h1', asAddr, h2]
  · rename_i b t u e
    obtain ⟨ad, v, y, h1, h2, h3, h4⟩ := load_run hE.t s h
    split at h3
    · rename_i rs
      have h4' : okBox y = true → RT (ctx X H pl w) y v := fun ok => by cases y <;> first | exact h4 | (simp [okBox] at ok)
      obtain ⟨ids, k1, k2, k3⟩ := ex_RRt s.good [y, ev ts (.tmp u)] rs _ [v, a.tmps.getD u undef] rfl (fun i z x hz hx => by
        match i with
        | 0 =>
          simp only [List.getElem?_cons_zero, Option.some.injEq] at hz hx; subst hz; subst hx
          cases rs with
          | nil => simp [exsW] at h3
          | cons r rs => simp only [exsW] at h3; exact h4' (exW_box h3)
        | 1 => simp only [List.getElem?_cons_zero, List.getElem?_cons_succ, Option.some.injEq] at hz hx; subst hz; subst hx; exact tm u
        | i + 2 => simp at hz) h3
      refine ⟨.tuple #[v, a.tmps.getD u undef], ?_, Res_mk s k2 k1 fun O' hO => ⟨_, rfl, k3 O' hO⟩⟩
      have h1' : a.tmps.getD b undef = .pointer (some ad) := h1
      rw [Array.getD_eq_getD_getElem?] at h1'
      simp [results, arr e, h1', asAddr, h2]
    · exact h3.elim
  · exact h.elim

end

def pad (args : List LV) (n : Nat) : List LV := args ++ List.replicate (n - args.length) .undef

theorem pad_RT {X : Nat → Prop} {H : List Blk} {pl : Nat → PV} {w : World} {args : List LV} {vs : Array Value} {n : Nat} (hsz : vs.size = args.length)
    (hargs : ∀ (i : Nat) x v, args[i]? = some x → vs[i]? = some v → RT (ctx X H pl w) x v) : ∀ (t : Nat) x, (pad args n)[t]? = some x → RT (ctx X H pl w) x ((vs ++ Array.replicate (n - vs.size) undef).getD t undef) := by
  intro t x hx
  simp only [pad] at hx
  by_cases ht : t < args.length
  · rw [List.getElem?_append_left ht] at hx
    have hv : (vs ++ Array.replicate (n - vs.size) undef).getD t undef = vs[t]'(by omega) := by
      rw [Array.getD_eq_getD_getElem?, Array.getElem?_append_left (by omega)]
      simp [show t < vs.size by omega]
    rw [hv]
    exact hargs t x _ hx (by simp [show t < vs.size by omega])
  · rw [List.getElem?_append_right (by omega), List.getElem?_replicate] at hx
    split at hx
    · cases hx; trivial
    · cases hx

/-- A function's contract, out of its code. -/
theorem FSpec_of_code {E : Env} (hE : EnvOK E) {f : FuncId} {fn : Func} {c : Code} (hf : E.P.funcs[f]? = some fn) (hb : fn.body = some c)
    (hc : ∀ (vs : Array Value) (w : World), (callFunc f vs).run E.P w = .ok (.enter f vs) w) (args : List LV) (r : LV)
    (h : codeW E c (pad args fn.ntmps) [] fun e ts H => match e with | .exit _ => False | _ => retW E fn.results.toList ts H r) (hn : E.n0 = 0 := by rfl) : FSpec E.P f args r := by
  unfold FSpec
  refine ⟨hc, fun w O vs hI hO hsz hargs => ?_⟩
  refine calls_of_wp hf hb (codeW_sound hE (X := O) (B := w.heap.size) (W0 := ⟨w, [], fun _ => ⟨.nilIface, []⟩⟩) hn c _ _ ?_ _ _ _ _ (fun _ => ⟨.nilIface, []⟩) h ?_)
  · intro e ts H a w' pl k s
    cases e with
    | exit id => exact k.elim
    | normal =>
      obtain ⟨v, h1, h2⟩ := retW_sound hE s k
      exact ⟨s.defers, v, h1, v, rfl, s.good.below, h2⟩
    | ret =>
      obtain ⟨v, h1, h2⟩ := retW_sound hE s k
      exact ⟨s.defers, v, h1, v, rfl, s.good.below, h2⟩
  · have hle : (pctx O w).Le (ctx O [] (fun _ => ⟨.nilIface, []⟩) w) :=
      ⟨Nat.le_refl _, fun _ _ _ => rfl, fun b _ k => by rcases k with k | ⟨id, blk, k, _⟩; exact k; simp at k, fun _ _ _ k => k.elim, fun _ _ _ _ k => k.elim⟩
    exact ⟨⟨Below.refl _ _, ⟨Nat.le_refl _, hI⟩, fun id blk hb => by simp at hb, fun i j bi bj b hi => by simp at hi, fun i bi hi => by simp at hi, hO, fun _ _ => rfl, fun id blk b hb => by simp at hb⟩, rfl, by simp [pad, hsz],
      pad_RT hsz fun i x v hx hv => RT.mono hle _ _ (hargs i x v hx hv), Ctx.Le.refl _⟩

/-- What the results read as. -/
def retVals (E : Env) : List ResultVar → List LV → List Blk → (List LV → Prop) → Prop
  | [], _, _, K => K []
  | .tmp t :: r, ts, H, K => retVals E r ts H fun vs => K (ev ts (.tmp t) :: vs)
  | .cell b t :: r, ts, H, K => loadE E.T H t (ev ts (.tmp b)) fun x => retVals E r ts H fun vs => K (x :: vs)

def tupOf : List LV → LV
  | [x] => x
  | xs => .tup xs
def noTup : List LV → Bool
  | [] => true
  | .tup _ :: _ => false
  | _ :: xs => noTup xs

/-- What the results read as, and what is left of the blocks. -/
def retH (E : Env) (rvs : List ResultVar) (ts : List LV) (H : List Blk) (r : LV) (Hout : List Blk) : Prop :=
  retVals E rvs ts H fun vs => ∃ rs, tupOf rs = r ∧ noTup rs = true ∧ Weak E.n0 vs H rs Hout

theorem retVals_sound {E : Env} (hE : EnvOK E) {X : Nat → Prop} {B : Nat} {W0 : Orig} {ts : List LV} {H : List Blk} {a : Act} {pl : Nat → PV} {w : World} (s : Sim X B W0 ⟨ts, H⟩ a w pl) :
    ∀ (rvs : List ResultVar) (K : List LV → Prop), retVals E rvs ts H K → ∃ (xs : List LV) (vs : List Value), K xs ∧ vs.length = xs.length ∧ (∀ (i : Nat) x v, xs[i]? = some x → vs[i]? = some v → RT (ctx X H pl w) x v) ∧
      (rvs.mapM fun (q : ResultVar) => match q with | .tmp t => (pure (a.tmps.getD t undef) : Sem Value) | .cell b t => (do loadVar t (← asAddr (a.tmps.getD b undef)) : Sem Value)).run E.P w = Result.ok vs w
  | [], K, h => ⟨[], [], h, rfl, fun i x v hx => by simp at hx, by simp⟩
  | .tmp t :: r, K, h => by
    simp only [retVals] at h
    obtain ⟨xs, vs, h1, h2, h3, h4⟩ := retVals_sound hE s r _ h
    refine ⟨_, a.tmps.getD t undef :: vs, h1, by simp [h2], fun i x v hx hv => ?_, by rw [List.mapM_cons]; simp only [Sem.run_bind, Sem.run_pure, Result.andThen_ok, h4]⟩
    cases i with
    | zero =>
      simp only [List.getElem?_cons_zero, Option.some.injEq] at hx hv
      subst hx; subst hv
      exact ev_sound s (.tmp t)
    | succ i => exact h3 i x v (by simpa using hx) (by simpa using hv)
  | .cell b t :: r, K, h => by
    simp only [retVals] at h
    obtain ⟨ad, v, y, h5, h6, h7, h8⟩ := load_run hE.t s (loadE_W h)
    obtain ⟨xs, vs, h1, h2, h3, h4⟩ := retVals_sound hE s r _ h7
    have hy : RT (ctx X H pl w) y v := by
      cases y <;> first | exact h8 | (simp only [RT1] at h8)
    have h5' : a.tmps.getD b undef = .pointer (some ad) := h5
    refine ⟨_, v :: vs, h1, by simp [h2], fun i x v' hx hv => ?_, by have ha : (asAddr (a.tmps.getD b undef)).run E.P w = .ok ad w := by { rw [h5']; rfl }; rw [List.mapM_cons]; simp only [ha, Sem.run_bind, Sem.run_pure, Result.andThen_ok, h6, h4]⟩
    cases i with
    | zero => simp at hx hv; subst hx; subst hv; exact hy
    | succ i => exact h3 i x v' (by simpa using hx) (by simpa using hv)

theorem noTup_get : ∀ {xs : List LV} {i : Nat} {x : LV}, noTup xs = true → xs[i]? = some x → ∀ vs, x ≠ .tup vs
  | y :: ys, 0, x, h, hx, vs => by simp at hx; subst hx; intro e; subst e; simp [noTup] at h
  | y :: ys, i + 1, x, h, hx, vs => noTup_get (xs := ys) (i := i) (by cases y <;> first | exact h | (simp [noTup] at h)) (by simpa using hx) vs

theorem tup_RT {ρ : Ctx} : ∀ {rs : List LV} {vs : List Value}, rs.length = vs.length → noTup rs = true → (∀ (i : Nat) x v, rs[i]? = some x → vs[i]? = some v → RT ρ x v) →
    RT ρ (tupOf rs) (if h : vs.toArray.size = 1 then vs.toArray[0] else .tuple vs.toArray)
  | [], [], _, _, _ => ⟨#[], rfl, rfl, fun i y u h => by simp at h⟩
  | [], _ :: _, h, _, _ => by simp at h
  | _ :: _, [], h, _, _ => by simp at h
  | [x], [v], _, _, rt => rt 0 x v rfl rfl
  | [_], _ :: _ :: _, h, _, _ => by simp at h
  | _ :: _ :: _, [_], h, _, _ => by simp at h
  | x :: y :: r, v :: u :: us, hl, h2, rt => by
    refine ⟨(v :: u :: us).toArray, by simp, by simpa using hl.symm, fun i z q hz hq => ?_⟩
    have := rt i z q hz (by simpa using hq)
    have nt := noTup_get h2 hz
    cases z <;> first | exact this | (exact absurd rfl (nt _))

theorem retH_sound {E : Env} (hE : EnvOK E) {X : Nat → Prop} {B : Nat} {W0 : Orig} {ts : List LV} {H Hout : List Blk} {a : Act} {pl : Nat → PV} {w : World} (s : Sim X B W0 ⟨ts, H⟩ a w pl) (hn : E.n0 = W0.H.length)
    {fn : Func} {r : LV} (h : retH E fn.results.toList ts H r Hout) :
    ∃ v pl', (results fn a.tmps).run E.P w = .ok v w ∧ Good X B W0 Hout pl' w ∧ RT (ctx X Hout pl' w) r v ∧ (ctx X W0.H W0.pl W0.w).Le (ctx X Hout pl' w) := by
  obtain ⟨xs, vs, ⟨rs, h1, h2, h3⟩, h4, h5, h6⟩ := retVals_sound hE s _ _ h
  have s' : Sim X B W0 ⟨xs, H⟩ { a with tmps := vs.toArray } w pl := ⟨s.good, s.defers, by simp [h4], fun t x hx => by
    have hlt : t < vs.length := by rw [h4]; exact lt_of_get hx
    have : (vs.toArray).getD t undef = vs[t] := by simp [Array.getD_eq_getD_getElem?, hlt]
    show RT _ x ((vs.toArray).getD t undef)
    rw [this]
    exact h5 t x _ hx (List.getElem?_eq_getElem hlt), s.le⟩
  obtain ⟨pl', s2⟩ := s'.weakAny h3 hn
  have hlen : rs.length = vs.length := by have := s2.size; simpa using this.symm
  have hres : (results fn a.tmps).run E.P w = .ok (if h : vs.toArray.size = 1 then vs.toArray[0] else .tuple vs.toArray) w := by
    unfold results
    rw [Array.mapM_eq_mapM_toList]
    simp only [Sem.run_bind, Sem.run_map]
    erw [h6]
    rfl
  refine ⟨_, pl', hres, s2.good, ?_, s2.le⟩
  have rt : ∀ (i : Nat) x v, rs[i]? = some x → vs[i]? = some v → RT (ctx X Hout pl' w) x v := fun i x v hx hv => by
    have := s2.tmps i x hx
    have e : (vs.toArray).getD i undef = v := by rw [Array.getD_eq_getD_getElem?]; simp [hv]
    have e' : ({ a with tmps := vs.toArray } : Act).tmps.getD i undef = v := e
    rw [e'] at this
    exact this
  subst h1
  exact tup_RT hlen h2 rt

/-- A contract that writes, out of the code. -/
theorem HSpec_of_code {E : Env} (hE : EnvOK E) {f : FuncId} {fn : Func} {c : Code} (hf : E.P.funcs[f]? = some fn) (hb : fn.body = some c)
    (hc : ∀ (vs : Array Value) (w : World), (callFunc f vs).run E.P w = .ok (.enter f vs) w) (args : List LV) (Hin : List Blk) (r : LV) (Hout : List Blk)
    (h : codeW E c (pad args fn.ntmps) Hin fun e ts H => match e with | .exit _ => False | _ => retH E fn.results.toList ts H r Hout) (hn : E.n0 = Hin.length := by rfl) : HSpec E.P f args Hin r Hout := by
  unfold HSpec
  refine ⟨hc, fun X B w vs pl hg hsz hargs => ?_⟩
  refine calls_of_wp hf hb (codeW_sound hE (X := X) (B := B) (W0 := ⟨w, Hin, pl⟩) hn c _ _ ?_ _ _ _ _ pl h ?_)
  · intro e ts H a w' pl0 k s
    cases e with
    | exit id => exact k.elim
    | normal =>
      obtain ⟨v, pl', h1, h2, h3, h4⟩ := retH_sound hE s hn k
      exact ⟨s.defers, v, h1, v, pl', rfl, h2, h3, h4⟩
    | ret =>
      obtain ⟨v, pl', h1, h2, h3, h4⟩ := retH_sound hE s hn k
      exact ⟨s.defers, v, h1, v, pl', rfl, h2, h3, h4⟩
  · exact ⟨hg, rfl, by simp [pad, hsz], pad_RT hsz hargs, Ctx.Le.refl _⟩

/-- The same program, other functions called by contracts that write, so many blocks lent. -/
def Env.x (E : Env) (hf : List Nat) (n0 : Nat) : Env := { E with hf, n0 }
theorem EnvOK.x {E : Env} (h : EnvOK E) {hf : List Nat} {n0 : Nat} : EnvOK (E.x hf n0) := ⟨h.t, h.z, h.m, h.c, h.mm, h.b, h.mp⟩

/-! ### Tables -/

def lookT {α : Type} : List (Nat × α) → Nat → Option α
  | [], _ => none
  | (k, i) :: r, t => match Nat.beq k t with | true => some i | false => lookT r t

theorem lookT_mem {α : Type} : ∀ (l : List (Nat × α)) (t : Nat) (i : α), lookT l t = some i → (t, i) ∈ l
  | [], _, _, h => by simp [lookT] at h
  | (k, j) :: r, t, i, h => by
    simp only [lookT] at h
    split at h
    · rename_i e; cases h; have := Nat.eq_of_beq_eq_true e; subst this; simp
    · exact List.mem_cons_of_mem _ (lookT_mem r t i h)

def zOKB (P : Program) (t : TypeId) (z : LV) : Bool :=
  match P.info? t with
  | some inf => match inf.zero with
    | some zv => match litIn z zv.cells.toList with
      | some [] => true
      | _ => false
    | none => false
  | none => false

def bdOKB (P : Program) (t : TypeId) : Bool :=
  match P.info? t with
  | some inf => match inf.zero with
    | some zv => match zv.cells.toList with
      | [.pointer none, .slice none 0 0] => true
      | _ => false
    | none => false
  | none => false
theorem BdOK_of {P : Program} {l : List (Nat × Nat)} (h : l.all (fun x => bdOKB P x.1) = true) : BdOK P l := by
  intro t e he
  have hm : (t, e) ∈ l := by
    clear h
    induction l with
    | nil => simp [bdOf] at he
    | cons x l ih =>
      obtain ⟨k, e'⟩ := x
      simp only [bdOf] at he
      split at he
      · rename_i hb
        have := Nat.eq_of_beq_eq_true hb
        cases he; subst this; simp
      · exact List.mem_cons_of_mem _ (ih he)
  have hb := List.all_eq_true.1 h _ hm
  unfold bdOKB at hb
  simp only at hb
  split at hb
  · rename_i inf hi
    split at hb
    · rename_i zv hz
      split at hb
      · rename_i hc
        exact ⟨inf, zv, hi, hz, by rw [← Array.toArray_toList (xs := zv.cells), hc]⟩
      · cases hb
    · cases hb
  · cases hb

theorem TabOK_of {P : Program} {l : List (Nat × TyI)} (h : l.all (fun x => tyOKB P x.1 x.2) = true) : TabOK P (lookT l) :=
  fun t i e => tyOK_of_B (List.all_eq_true.1 h _ (lookT_mem l t i e))

theorem COK_of {P : Program} {l : List (Nat × List (Nat × Nat))} (h : l.all (fun x => cmpB P x.1 x.2) = true) : COK P (lookT l) :=
  fun t i e => cmpOK_of_B (List.all_eq_true.1 h _ (lookT_mem l t i e))

theorem ZOK_of {P : Program} {l : List (Nat × LV)} (h : l.all (fun x => zOKB P x.1 x.2) = true) : ZOK P (lookT l) := by
  intro t z e
  have := List.all_eq_true.1 h _ (lookT_mem l t z e)
  simp only [zOKB] at this
  split at this
  · rename_i inf h1
    split at this
    · rename_i zv h2
      split at this
      · rename_i h3; exact ⟨inf, zv, h1, h2, h3⟩
      · cases this
    · cases this
  · cases this

end Go.Lg

