/- Code, told over readings; a function's contract out of its code. -/
import Derived.Test.YtciegilcimbmoaaLgKD
namespace Go.Lg
open Go.RowKit

/-! ### Forgetting -/

def wk : List LV → List LV → Prop
  | [], [] => True
  | _ :: xs, .undef :: ys => wk xs ys
  | x :: xs, y :: ys => x = y ∧ wk xs ys
  | _, _ => False

mutual
def sc (n : Nat) : LV → Bool
  | .hs id _ => decide (id < n)
  | .hp id _ _ => decide (id < n)
  | .st fs => scs n fs
  | .tup vs => scs n vs
  | _ => true
def scs (n : Nat) : List LV → Bool
  | [] => true
  | x :: xs => sc n x && scs n xs
end

def scB (n : Nat) : Blk → Bool
  | .box c => sc n c
  | _ => true

def wkH : List Blk → List Blk → Prop
  | _, [] => True
  | x :: xs, y :: ys => x = y ∧ wkH xs ys
  | [], _ :: _ => False

/-- (ts', H') says no more than (ts, H). -/
def weak (ts : List LV) (H : List Blk) (ts' : List LV) (H' : List Blk) : Prop :=
  wk ts ts' ∧ wkH H H' ∧ scs H'.length ts' = true ∧ H'.all (scB H'.length) = true

theorem wk_len : ∀ (xs ys : List LV), wk xs ys → ys.length = xs.length
  | [], [], _ => rfl
  | [], _ :: _, h => by simp [wk] at h
  | _ :: _, [], h => by simp [wk] at h
  | x :: xs, y :: ys, h => by
    cases y <;> simp only [wk] at h <;> first
      | simp [wk_len xs ys h]
      | simp [wk_len xs ys h.2]

theorem wk_get : ∀ (xs ys : List LV) (i : Nat) (y : LV), wk xs ys → ys[i]? = some y → y = .undef ∨ xs[i]? = some y
  | [], [], i, y, _, h => by simp at h
  | [], _ :: _, _, _, h, _ => by simp [wk] at h
  | _ :: _, [], _, _, h, _ => by simp [wk] at h
  | x :: xs, z :: ys, 0, y, h, k => by
    simp at k; subst k
    cases z <;> simp only [wk] at h <;> first
      | exact .inl rfl
      | (right; simp [h.1])
  | x :: xs, z :: ys, i + 1, y, h, k => by
    have h' : wk xs ys := by cases z <;> simp only [wk] at h <;> first | exact h | exact h.2
    simpa using wk_get xs ys i y h' (by simpa using k)

theorem wkH_get : ∀ (xs ys : List Blk) (i : Nat) (y : Blk), wkH xs ys → ys[i]? = some y → xs[i]? = some y
  | _, [], i, y, _, h => by simp at h
  | [], _ :: _, _, _, h, _ => by simp [wkH] at h
  | x :: xs, z :: ys, 0, y, h, k => by simp only [wkH] at h; simp at k ⊢; rw [h.1, k]
  | x :: xs, z :: ys, i + 1, y, h, k => by simp only [wkH] at h; simpa using wkH_get xs ys i y h.2 (by simpa using k)

theorem wkH_len : ∀ (xs ys : List Blk), wkH xs ys → ys.length ≤ xs.length
  | _, [], _ => by simp
  | [], _ :: _, h => by simp [wkH] at h
  | x :: xs, z :: ys, h => by simp only [wkH] at h; simpa using wkH_len xs ys h.2

theorem wkH_lt (xs ys : List Blk) (i : Nat) (h : wkH xs ys) (hi : i < ys.length) : ys[i]? = xs[i]? := by
  rw [wkH_get xs ys i _ h (List.getElem?_eq_getElem hi), List.getElem?_eq_getElem hi]

section
variable {X : Nat → Prop} {H H' : List Blk} {pl : Nat → Value} {w : World}

theorem pure_shrink (h : wkH H H') : (ctx X H pl w).pure.Le (ctx X H' pl w).pure := by
  refine ⟨Nat.le_refl _, fun _ _ _ => rfl, fun b _ ho => ?_, fun _ _ _ h => h, fun _ _ _ _ h => h⟩
  rcases ho with ho | ⟨id, blk, h1, h2⟩
  · exact .inl ho
  · exact .inr ⟨id, blk, wkH_get _ _ _ _ h h1, h2⟩

mutual
theorem RC_shrink (h : wkH H H') : ∀ (x : LV) (cs : List Value), sc H'.length x = true → RC (ctx X H pl w) x cs → RC (ctx X H' pl w) x cs
  | .undef, _, _, k => by simp [RC] at k
  | .int _ _, _, _, k => by simp only [RC] at k ⊢; exact k
  | .bool _, _, _, k => by simp only [RC] at k ⊢; exact k
  | .str _, _, _, k => by simp only [RC] at k ⊢; exact k
  | .nil, _, _, k => by simp only [RC] at k ⊢; exact k
  | .sl xs, cs, _, k => by
    have : RC (ctx X H pl w).pure (.sl xs) cs := by simp only [RC] at k ⊢; exact k
    have := RC.mono (pure_shrink h) _ _ this
    simp only [RC] at this ⊢; exact this
  | .own _ _ _, _, _, k => by simp [RC] at k
  | .st fs, cs, s, k => by simp only [sc] at s; rw [RC_st] at k ⊢; exact RCs_shrink h fs cs s k
  | .tup _, _, _, k => by simp [RC] at k
  | .ref c, cs, _, k => by
    have : RC (ctx X H pl w).pure (.ref c) cs := by simp only [RC] at k ⊢; exact k
    have := RC.mono (pure_shrink h) _ _ this
    simp only [RC] at this ⊢; exact this
  | .clos f c, cs, _, k => by
    have : RC (ctx X H pl w).pure (.clos f c) cs := by simp only [RC] at k ⊢; exact k
    have := RC.mono (pure_shrink h) _ _ this
    simp only [RC] at this ⊢; exact this
  | .hs id n, cs, s, k => by
    simp only [sc, decide_eq_true_eq] at s
    simp only [RC] at k ⊢
    obtain ⟨v, rfl, h1, h2, h3⟩ := k
    exact ⟨v, rfl, s, h2, fun e kk xs hx hn => h3 e kk xs (by rw [← wkH_lt _ _ _ h s]; exact hx) hn⟩
  | .hp id n p, cs, s, k => by
    simp only [sc, decide_eq_true_eq] at s
    simp only [RC] at k ⊢
    obtain ⟨v, rfl, h1, h2, h3, h4, h5⟩ := k
    refine ⟨v, rfl, s, h2, ?_, ?_, ?_⟩
    · intro c o hx; exact h3 c o (by rw [← wkH_lt _ _ _ h s]; exact hx)
    · intro e kk xs o hx; exact h4 e kk xs o (by rw [← wkH_lt _ _ _ h s]; exact hx)
    · intro q r hx; exact h5 q r (by rw [← wkH_lt _ _ _ h s]; exact hx)
theorem RCs_shrink (h : wkH H H') : ∀ (xs : List LV) (cs : List Value), scs H'.length xs = true → RCs (ctx X H pl w) xs cs → RCs (ctx X H' pl w) xs cs
  | [], _, _, k => by simp only [RCs] at k ⊢; exact k
  | x :: xs, cs, s, k => by
    simp only [scs, Bool.and_eq_true] at s
    simp only [RCs] at k ⊢
    obtain ⟨c1, c2, rfl, k1, k2⟩ := k
    exact ⟨c1, c2, rfl, RC_shrink h x c1 s.1 k1, RCs_shrink h xs c2 s.2 k2⟩
end

theorem RT1_shrink (h : wkH H H') {x : LV} {v : Value} (s : sc H'.length x = true) (k : RT1 (ctx X H pl w) x v) : RT1 (ctx X H' pl w) x v := by
  unfold RT1 at *
  cases x <;> first
    | exact k
    | (obtain ⟨cs, k1, k2⟩ := k; simp only [sc] at s; exact ⟨cs, k1, RCs_shrink h _ _ s k2⟩)
    | exact RC_shrink h _ _ s k

theorem scs_get : ∀ (xs : List LV) (n i : Nat) (x : LV), scs n xs = true → xs[i]? = some x → sc n x = true
  | [], _, _, _, _, h => by simp at h
  | x :: xs, n, 0, y, s, h => by simp only [scs, Bool.and_eq_true] at s; simp at h; subst h; exact s.1
  | x :: xs, n, i + 1, y, s, h => by simp only [scs, Bool.and_eq_true] at s; exact scs_get xs n i y s.2 (by simpa using h)

theorem RT_shrink (h : wkH H H') {x : LV} {v : Value} (s : sc H'.length x = true) (k : RT (ctx X H pl w) x v) : RT (ctx X H' pl w) x v := by
  unfold RT at *
  cases x <;> first
    | exact RT1_shrink h s k
    | (obtain ⟨us, h1, h2, h3⟩ := k; simp only [sc] at s; exact ⟨us, h1, h2, fun i y u hy hu => RT1_shrink h (scs_get _ _ _ _ s hy) (h3 i y u hy hu)⟩)

theorem Sim.weak {B : Nat} {W0 : World} {ts ts' : List LV} {a : Act} (s : Sim X B W0 ⟨ts, H⟩ a w pl) (h : weak ts H ts' H') : Sim X B W0 ⟨ts', H'⟩ a w pl := by
  obtain ⟨h1, h2, h3, h4⟩ := h
  refine ⟨⟨s.good.below, s.good.base, fun id blk hb => ?_, fun i j bi bj hi li hj lj => s.good.inj i j bi bj (wkH_get _ _ _ _ h2 hi) li (wkH_get _ _ _ _ h2 hj) lj, s.good.xlt⟩, s.defers, by rw [s.size]; exact (wk_len _ _ h1).symm, fun t x hx => ?_⟩
  · have hb0 := wkH_get _ _ _ _ h2 hb
    have hk := s.good.ok id blk hb0
    have hsc := List.all_eq_true.1 h4 blk (List.mem_of_getElem? hb)
    cases blk with
    | dead => trivial
    | box c => obtain ⟨b, es, ty, e1, e2, e3, e4⟩ := hk; exact ⟨b, es, ty, e1, e2, e3, RC_shrink h2 _ _ hsc e4⟩
    | arr e k xs => obtain ⟨es, e1, e2, e3⟩ := hk; exact ⟨es, e1, RCs.mono (pure_shrink h2) _ _ e2, e3⟩
    | it q p => exact hk
  · rcases wk_get _ _ _ _ h1 hx with rfl | hx'
    · trivial
    · exact RT_shrink h2 (scs_get _ _ _ _ h3 hx) (s.tmps t x hx')

end

/-! ### Code -/

inductive Ex where
  | normal
  | exit (id : Nat)
  | ret

def Ex.toExit : Ex → Exit
  | .normal => .normal
  | .exit id => .exit id
  | .ret => .ret

@[irreducible] def loopW (body : List LV → List Blk → (Ex → List LV → List Blk → Prop) → Prop) (ts : List LV) (H : List Blk) (K : Ex → List LV → List Blk → Prop) : Prop :=
  ∃ I : Nat → List LV → List Blk → Prop, (∃ n ts' H', weak ts H ts' H' ∧ I n ts' H') ∧
    ∀ n ts H, I n ts H → body ts H fun e ts' H' => match e with
      | .normal => ∃ m ts'' H'', m < n ∧ weak ts' H' ts'' H'' ∧ I m ts'' H''
      | .exit id => K (.exit id) ts' H'
      | .ret => K .ret ts' H'

def codeW (E : Env) : Code → List LV → List Blk → (Ex → List LV → List Blk → Prop) → Prop
  | .skip, ts, H, K => K .normal ts H
  | .region _ ops false, ts, H, K => opsW E ops ops.toList ts H fun ts' H' => K .normal ts' H'
  | .region _ ops true, ts, H, K => drawB ops = true ∧ opsW E ops ops.toList ts H fun ts' H' => K .normal ts' H'
  | .seq x y, ts, H, K => codeW E x ts H fun e ts' H' => match e with
    | .normal => codeW E y ts' H' K
    | .exit id => K (.exit id) ts' H'
    | .ret => K .ret ts' H'
  | .cond c x y, ts, H, K => match ev ts c with
    | .bool b => br b (codeW E x ts H K) (codeW E y ts H K)
    | _ => False
  | .block id b, ts, H, K => codeW E b ts H fun e ts' H' => match e with
    | .normal => K .normal ts' H'
    | .exit id' => match Nat.beq id' id with | true => K .normal ts' H' | false => K (.exit id') ts' H'
    | .ret => K .ret ts' H'
  | .loop b, ts, H, K => loopW (codeW E b) ts H K
  | .exit id, ts, H, K => K (.exit id) ts H
  | .ret, ts, H, K => K .ret ts H
  | _, _, _, _ => False

/-- A loop whose rounds are counted down beside the state. -/
theorem wp_loop_n {P : Program} {Q : Exit → Act → World → Prop} {c : Code} (I : Nat → Act → World → Prop)
    (round : ∀ n a w, I n a w → c.wp P (Exit.then (fun a' w' => ∃ m, m < n ∧ I m a' w') Q) a w) (n : Nat) (a : Act) (w : World) (h₀ : I n a w) : (Code.loop c).wp P Q a w := by
  intro b k cs
  have key : ∀ n a w, I n a w → ∃ e a' w', Q e a' w' ∧ Arrives P (lone (b.at a (.code c :: .inLoop c :: k)) cs w) b k cs e a' w' := by
    intro n
    induction n using Nat.strongRecOn with
    | _ n ih =>
      intro a w hI
      obtain ⟨e, a₁, w₁, hq, harr⟩ := round n a w hI b (.inLoop c :: k) cs
      cases e with
      | normal =>
        obtain ⟨m, hlt, hI₁⟩ := hq
        obtain ⟨e₂, a₂, w₂, hq₂, harr₂⟩ := ih m hlt a₁ w₁ hI₁
        exact ⟨e₂, a₂, w₂, hq₂, .of_steps (Steps.trans harr (.one step_inLoop)) harr₂⟩
      | exit id => exact ⟨_, a₁, w₁, hq, .pass (x := .inLoop c) rfl (fun _ _ => .inl (by simp)) harr⟩
      | goto l => exact ⟨_, a₁, w₁, hq, .pass (x := .inLoop c) rfl (fun _ _ => .inl (by simp)) harr⟩
      | ret => exact ⟨_, a₁, w₁, hq, .pass (x := .inLoop c) rfl (fun _ _ => .inl (by simp)) harr⟩
      | panic ch => exact ⟨_, a₁, w₁, hq, .pass (x := .inLoop c) rfl (fun _ _ => .inl (by simp)) harr⟩
      | outgrown => exact ⟨_, a₁, w₁, hq, .pass (x := .inLoop c) rfl (fun _ _ => .inl (by simp)) harr⟩
  obtain ⟨e, a', w', hq, harr⟩ := key n a w h₀
  exact ⟨e, a', w', hq, .of_steps (.one step_loop) harr⟩

theorem codeW_sound {E : Env} (hE : EnvOK E) {X : Nat → Prop} {B : Nat} {W0 : World} : ∀ (c : Code) (K : Ex → List LV → List Blk → Prop) (Q : Exit → Act → World → Prop),
    (∀ e ts H a w pl, K e ts H → Sim X B W0 ⟨ts, H⟩ a w pl → Q e.toExit a w) → ∀ (ts : List LV) (H : List Blk) (a : Act) (w : World) (pl : Nat → Value),
    codeW E c ts H K → Sim X B W0 ⟨ts, H⟩ a w pl → c.wp E.P Q a w
  | .skip, K, Q, hK, ts, H, a, w, pl, h, s => by simp only [codeW] at h; exact wp_skip (hK .normal ts H a w pl h s)
  | .region id ops false, K, Q, hK, ts, H, a, w, pl, h, s => by
    simp only [codeW] at h
    exact wp_region_list (opsW_sound hE (K := fun ts' H' => K .normal ts' H') (fun ts H a w pl k s => hK .normal ts H a w pl k s) _ ts H a w pl h s)
  | .region id ops true, K, Q, hK, ts, H, a, w, pl, h, s => by
    simp only [codeW] at h
    exact draw_sound hE (drawB_spec h.1) (K := fun ts' H' => K .normal ts' H') (fun ts H a w pl k s => hK .normal ts H a w pl k s) h.2 s
  | .seq x y, K, Q, hK, ts, H, a, w, pl, h, s => by
    simp only [codeW] at h
    refine wp_seq (codeW_sound hE x _ _ (fun e ts H a w pl k s => ?_) ts H a w pl h s)
    cases e with
    | normal => exact codeW_sound hE y K Q hK ts H a w pl k s
    | exit id => exact hK (.exit id) ts H a w pl k s
    | ret => exact hK .ret ts H a w pl k s
  | .cond c x y, K, Q, hK, ts, H, a, w, pl, h, s => by
    simp only [codeW] at h
    have hv := ev_sound s c
    cases e : ev ts c <;> rw [e] at h <;> try exact h.elim
    rename_i b
    have e' : ev (St.mk ts H).tmps c = .bool b := e
    rw [e'] at hv
    simp only [br] at h
    refine wp_cond_split (RT_bool hv) (fun hb => ?_) (fun hb => ?_)
    · exact codeW_sound hE x K Q hK ts H a w pl (h.1 hb) s
    · exact codeW_sound hE y K Q hK ts H a w pl (h.2 hb) s
  | .block id b, K, Q, hK, ts, H, a, w, pl, h, s => by
    simp only [codeW] at h
    refine wp_block (codeW_sound hE b _ _ (fun e ts H a w pl k s => ?_) ts H a w pl h s)
    cases e with
    | normal => exact hK .normal ts H a w pl k s
    | exit id' =>
      show (if id' = id then _ else _)
      simp only at k
      split at k
      · rename_i hh
        rw [if_pos (Nat.eq_of_beq_eq_true hh)]; exact hK .normal ts H a w pl k s
      · rename_i hh
        rw [if_neg (Nat.ne_of_beq_eq_false hh)]; exact hK (.exit id') ts H a w pl k s
    | ret => exact hK .ret ts H a w pl k s
  | .loop b, K, Q, hK, ts, H, a, w, pl, h, s => by
    simp only [codeW, loopW] at h
    obtain ⟨I, ⟨n, ts', H', hw, hI⟩, hr⟩ := h
    refine wp_loop_n (fun n a w => ∃ ts H pl, I n ts H ∧ Sim X B W0 ⟨ts, H⟩ a w pl) ?_ n a w ⟨ts', H', pl, hI, s.weak hw⟩
    rintro n a w ⟨ts, H, pl, hI, s⟩
    refine codeW_sound hE b _ _ (fun e ts H a w pl k s => ?_) ts H a w pl (hr n ts H hI) s
    cases e with
    | normal =>
      obtain ⟨m, ts'', H'', hm, hw, hI'⟩ := k
      exact ⟨m, hm, ts'', H'', pl, hI', s.weak hw⟩
    | exit id => exact hK (.exit id) ts H a w pl k s
    | ret => exact hK .ret ts H a w pl k s
  | .exit id, K, Q, hK, ts, H, a, w, pl, h, s => by simp only [codeW] at h; exact wp_exit (hK (.exit id) ts H a w pl h s)
  | .ret, K, Q, hK, ts, H, a, w, pl, h, s => by simp only [codeW] at h; exact wp_ret (hK .ret ts H a w pl h s)
  | .rangeFunc _ _ _ _, _, _, _, _, _, _, _, _, h, _ => by simp [codeW] at h
  | .scope _, _, _, _, _, _, _, _, _, h, _ => by simp [codeW] at h
  | .label _, _, _, _, _, _, _, _, _, h, _ => by simp [codeW] at h
  | .goto _, _, _, _, _, _, _, _, _, h, _ => by simp [codeW] at h
  | .refuse _, _, _, _, _, _, _, _, _, h, _ => by simp [codeW] at h

end Go.Lg
