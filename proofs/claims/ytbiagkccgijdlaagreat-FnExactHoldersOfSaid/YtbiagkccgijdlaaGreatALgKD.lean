/- A region whose order is open: operations that only read come in any order, the rest behind them in the order of the text. -/
import Derived.Test.YtbiagkccgijdlaaGreatALgK
import Derived.Orders
namespace Go.Lg
variable [GI]
set_option linter.unusedSectionVars false
set_option linter.unusedVariables false
set_option linter.unusedSimpArgs false
open Go.RowKit

/-- Operations that leave the blocks alone. -/
def isQ (hf : List Nat) (o : Oper) : Bool :=
  match o.op with
  | .move _ | .assign _ | .pick _ _ _ | .extract _ _ | .unOp _ _ _ | .binOp _ _ _ _ _ | .load _ _ | .fieldAddr _ _ _ | .indexAddr _ _ _ | .index _ _ _ | .field _ _ _ => true
  | .slice _ _ _ _ _ => true
  | .call ⟨.builtin .len, _, _⟩ => true
  | .call ⟨.builtin .max, _, _⟩ => true
  | .call ⟨.builtin .min, _, _⟩ => true
  | .call ⟨.value (.func g), _, _⟩ => !memB hf g
  | .call ⟨.value _, _, _⟩ => hf.isEmpty
  | .call ⟨.invoke _ _, _, _⟩ => hf.isEmpty
  | .build _ _ | .makeFunc _ _ _ | .convert _ _ _ | .nilCheck _ => true
  | _ => false

/-! ### The value of an operation that only reads -/

theorem binI_ex {op : BinOp} {k : IntKind} {a b : Int} {K : LV → Prop} (h : binI op k a b K) : ∃ x, K x ∧ ∀ K' : LV → Prop, K' x → binI op k a b K' := by
  cases op <;> simp only [binI] at h ⊢ <;> first
    | exact h.elim
    | exact ⟨_, h, fun _ h => h⟩
    | exact ⟨_, h.2, fun _ h' => ⟨h.1, h'⟩⟩

theorem unW_ex {op : UnOp} {v : LV} {K : LV → Prop} (h : unW op v K) : ∃ x, K x ∧ ∀ K' : LV → Prop, K' x → unW op v K' := by
  cases op <;> cases v <;> simp only [unW] at h ⊢ <;> first
    | exact h.elim
    | exact ⟨_, h, fun _ h => h⟩

theorem binW_ex {T : Tab} {op : BinOp} {t : TypeId} {u v : LV} {K : LV → Prop} (h : binW T op t u v K) : ∃ x, K x ∧ ∀ K' : LV → Prop, K' x → binW T op t u v K' := by
  cases u <;> cases v <;> simp only [binW] at h ⊢ <;> try exact h.elim
  case int.int k a k' b =>
    have main : ∀ op, (match Nat.beq (kc k) (kc k') with | true => binI op k a b K | false => False) → ∃ x, K x ∧ ∀ K' : LV → Prop, K' x → (match Nat.beq (kc k) (kc k') with | true => binI op k a b K' | false => False) := by
      intro op h
      cases hk : Nat.beq (kc k) (kc k') <;> rw [hk] at h
      · exact h.elim
      · exact binI_ex h
    cases op <;> simp only at h ⊢ <;> first
      | exact ⟨_, h.2, fun _ h' => ⟨h.1, h'⟩⟩
      | exact main _ h
  case str.str a b =>
    cases op <;> simp only at h ⊢ <;> first
      | exact h.elim
      | exact ⟨_, h, fun _ h => h⟩
      | exact ⟨_, h.2, fun _ h' => ⟨h.1, h'⟩⟩
  case bool.bool a b =>
    cases hi : T t with
    | none => rw [hi] at h; exact h.elim
    | some i =>
      rw [hi] at h
      obtain ⟨kd, sz, by'⟩ := i
      cases kd <;> simp only at h ⊢ <;> try exact h.elim
      cases op <;> simp only at h ⊢ <;> first
        | exact h.elim
        | exact ⟨_, h, fun _ h => h⟩

theorem indexAddrW_ex {T : Tab} {H : List Blk} {t : TypeId} {p ix : LV} {K : LV → Prop} (h : indexAddrW T H t p ix K) : ∃ x, K x ∧ ∀ K' : LV → Prop, K' x → indexAddrW T H t p ix K' := by
  unfold indexAddrW at h ⊢
  split at h
  · rename_i e sz by' hi
    try simp only [hi]
    cases hei : T e with
    | none => rw [hei] at h; exact h.elim
    | some ei =>
      rw [hei] at h
      cases ix <;> simp only at h ⊢ <;> try exact h.elim
      cases p <;> simp only at h ⊢ <;> try exact h.elim
      · obtain ⟨j, x, h1, h2, h3, h4⟩ := h; exact ⟨_, h4, fun _ h => ⟨j, x, h1, h2, h3, h⟩⟩
      · rename_i id n
        cases hc : H[id]? with
        | none => rw [hc] at h; exact h.elim
        | some b =>
          rw [hc] at h
          cases b <;> simp only at h ⊢ <;> try exact h.elim
          obtain ⟨hn, hk, j, h1, h2, h3⟩ := h; exact ⟨_, h3, fun _ h => ⟨hn, hk, j, h1, h2, h⟩⟩
  · exact h.elim

theorem indexW_ex {T : Tab} {t : TypeId} {p ix : LV} {K : LV → Prop} (h : indexW T t p ix K) : ∃ x, K x ∧ ∀ K' : LV → Prop, K' x → indexW T t p ix K' := by
  unfold indexW at h ⊢
  split at h
  · rename_i sz by' hi
    try simp only [hi]
    cases p <;> cases ix <;> simp only at h ⊢ <;> try exact h.elim
    obtain ⟨j, h1, h2, h3⟩ := h; exact ⟨_, h3, fun _ h => ⟨j, h1, h2, h⟩⟩
  · exact h.elim

theorem fieldW_ex {T : Tab} {t : TypeId} {p : LV} {f : Nat} {K : LV → Prop} (h : fieldW T t p f K) : ∃ x, K x ∧ ∀ K' : LV → Prop, K' x → fieldW T t p f K' := by
  unfold fieldW at h ⊢
  split at h
  · rename_i fts offs sz by' hi
    try simp only [hi]
    split at h
    · rename_i ft off hft hoff
      try simp only [hft, hoff]
      cases hfi : T ft with
      | none => rw [hfi] at h; exact h.elim
      | some fi =>
        rw [hfi] at h
        cases p <;> simp only at h ⊢ <;> try exact h.elim
        obtain ⟨h1, x, h2, h3, h4⟩ := h; exact ⟨x, h4, fun _ h => ⟨h1, x, h2, h3, h⟩⟩
    · exact h.elim
  · exact h.elim

theorem callW_ex {P : Program} {H : List Blk} {g : FuncId} {args : List LV} {K : LV → Prop} (h : callW P H g args K) : ∃ x, K x ∧ ∀ K' : LV → Prop, K' x → callW P H g args K' := by
  unfold callW at h ⊢
  obtain ⟨ys, b, ⟨r, h1, h2⟩, h3⟩ := lends_ex _ _ h
  cases hf : !b || flatT r <;> rw [hf] at h2
  · exact h2.elim
  · exact ⟨_, h2, fun K' h' => h3 _ ⟨r, h1, by rw [hf]; exact h'⟩⟩

theorem callH_ex {P : Program} {H : List Blk} {g : FuncId} {args : List LV} {K : LV → List Blk → Prop} (h : callH P H g args K) : ∃ x H', K x H' ∧ ∀ K' : LV → List Blk → Prop, K' x H' → callH P H g args K' := by
  obtain ⟨ids, as, Hin, r, Hout, h1, h2, h3⟩ := h
  obtain ⟨ys, d, ⟨k1, k2, k3, k4⟩, k5⟩ := demHs_ex _ _ h3
  rw [putBsK_eq] at k4
  exact ⟨_, _, k4, fun K' h => ⟨ids, as, Hin, r, Hout, h1, h2, k5 _ ⟨k1, k2, k3, by rw [putBsK_eq]; exact h⟩⟩⟩

theorem callG_ex {P : Program} {hf : List Nat} {H : List Blk} {g : FuncId} {args caps : List LV} {K : LV → List Blk → Prop} (h : callG P hf H g args caps K) :
    ∃ x H', K x H' ∧ (memB hf g = false → H' = H) ∧ ∀ K' : LV → List Blk → Prop, K' x H' → callG P hf H g args caps K' := by
  unfold callG at h ⊢
  cases hc : caps.all cap1 <;> rw [hc] at h
  · exact h.elim
  simp only at h ⊢
  cases hm : memB hf g <;> rw [hm] at h
  · obtain ⟨x, h1, h2⟩ := callW_ex h
    exact ⟨x, H, h1, fun _ => rfl, fun K' k => h2 _ k⟩
  · obtain ⟨x, H', h1, h2⟩ := callH_ex h
    exact ⟨x, H', h1, fun k => (by cases k), fun K' k => h2 _ k⟩

section
variable {E : Env} {X : Nat → Prop} {B : Nat} {W0 : Orig} {ts : List LV} {H : List Blk} {a : Act} {w : World} {pl : Nat → PV}

theorem invokeW_ex {E : Env} {H : List Blk} {r : LV} {name : String} {args : List LV} {K : LV → List Blk → Prop} (h : invokeW E H r name args K) :
    ∃ x H', K x H' ∧ (E.hf = [] → H' = H) ∧ ∀ K' : LV → List Blk → Prop, K' x H' → invokeW E H r name args K' := by
  unfold invokeW at h ⊢
  split at h
  · rename_i t v
    obtain ⟨i, f, x, h1, h2, h3, h4⟩ := h
    obtain ⟨y, H', k1, k2, k3⟩ := callG_ex h4
    exact ⟨y, H', k1, fun e => k2 (by rw [e]; rfl), fun K' hk => ⟨i, f, x, h1, h2, h3, k3 K' hk⟩⟩
  · rename_i t fs
    obtain ⟨i, f, h1, h4⟩ := h
    obtain ⟨y, H', k1, k2, k3⟩ := callG_ex h4
    exact ⟨y, H', k1, fun e => k2 (by rw [e]; rfl), fun K' hk => ⟨i, f, h1, k3 K' hk⟩⟩
  · exact h.elim
theorem lenW_ex (s : Sim X B W0 ⟨ts, H⟩ a w pl) {T : Tab} {t : TypeId} {x : Operand} {K : LV → Prop} (h : lenW T H t (ev ts x) K) : ∃ y, K y ∧ ∀ K' : LV → Prop, K' y → lenW T H t (ev ts x) K' := by
  have hv := ev_sound s x
  have e0 : ev (St.mk ts H).tmps x = ev ts x := rfl
  rw [e0] at hv
  generalize ev ts x = u at h hv
  unfold lenW at h ⊢
  split at h
  · rename_i sz by' hi
    try simp only [hi]
    cases u <;> simp only at h ⊢ <;> try exact h.elim
    exact ⟨_, h (RT_str hv).2, fun _ h _ => h⟩
  · rename_i e' sz by' hi
    try simp only [hi]
    cases u <;> simp only at h ⊢ <;> try exact h.elim
    · exact ⟨_, h, fun _ h => h⟩
    · rename_i xs
      simp only [RT, RT1, RC] at hv
      obtain ⟨_, cap, _, h2, h3, _⟩ := hv
      exact ⟨_, h (by omega), fun _ h _ => h⟩
    · rename_i id n
      cases hc : H[id]? with
      | none => rw [hc] at h; exact h.elim
      | some b =>
        rw [hc] at h
        cases b <;> simp only at h ⊢ <;> try exact h.elim
        rename_i e k xs
        have hm : xs.length ≤ maxLen := by
          obtain ⟨es, r1, _⟩ := s.good.ok id _ hc
          rcases r1.2 with ⟨_, h0⟩ | ⟨g, cap, cur, _, _, _, h5, h6, _⟩
          · omega
          · omega
        exact ⟨_, h.2 hm, fun _ h' => ⟨h.1, fun _ => h'⟩⟩
  · exact h.elim

theorem opW_ex (s : Sim X B W0 ⟨ts, H⟩ a w pl) {o : Oper} (hq : isQ E.hf o = true) {K : LV → List Blk → Prop}
    (h : opW E o ts H K) : ∃ x, K x H ∧ ∀ K' : LV → List Blk → Prop, K' x H → opW E o ts H K' := by
  obtain ⟨dst, op, ty, pos, after, guard⟩ := o
  have fin : ∀ {W : (LV → Prop) → Prop}, (∃ x, K x H ∧ ∀ K' : LV → Prop, K' x → W K') → ∃ x, K x H ∧ ∀ K' : LV → List Blk → Prop, K' x H → W fun v => K' v H :=
    fun ⟨x, h1, h2⟩ => ⟨x, h1, fun K' h' => h2 _ h'⟩
  cases op <;> simp only [isQ] at hq <;> try cases hq
  case move x => exact ⟨_, h, fun _ h => h⟩
  case assign x => exact ⟨_, h, fun _ h => h⟩
  case pick c x y =>
    simp only [opW] at h ⊢
    cases e : ev ts c <;> rw [e] at h <;> simp only at h ⊢ <;> try exact h.elim
    rename_i b
    cases b <;> exact ⟨_, h, fun _ h => h⟩
  case binOp => exact fin (binCW_ex binW_ex h)
  case unOp => exact fin (unW_ex h)
  case load => exact fin (loadE_ex h)
  case fieldAddr => exact fin (fieldAddrE_ex h)
  case field => exact fin (fieldW_ex h)
  case indexAddr => exact fin (indexAddrW_ex h)
  case index => exact fin (indexW_ex h)
  case extract x i =>
    simp only [opW] at h ⊢
    cases e : ev ts x <;> rw [e] at h <;> simp only at h ⊢ <;> try exact h.elim
    rename_i vs
    cases hv : vs[i]? with
    | none => rw [hv] at h; exact h.elim
    | some y =>
      rw [hv] at h
      cases y <;> simp only at h ⊢ <;> first | exact h.elim | exact ⟨_, h, fun _ h => h⟩
  case call c =>
    obtain ⟨callee, args, ats⟩ := c
    cases callee <;> try simp only at hq
    all_goals try cases hq
    case value f =>
      simp only [opW] at h ⊢
      cases e : ev ts f <;> rw [e] at h <;> simp only at h ⊢ <;> try exact h.elim
      rename_i g caps
      obtain ⟨x, H', h1, h2, h3⟩ := callG_ex h
      have hm : memB E.hf g = false := by
        cases f <;> simp only at hq
        case func g' =>
          simp only [ev, LV.clos.injEq] at e
          rw [e.1] at hq
          simpa using hq
        all_goals
          have : E.hf = [] := List.isEmpty_iff.1 hq
          rw [this]; rfl
      have := h2 hm
      subst this
      exact ⟨x, h1, h3⟩
    case invoke r name =>
      simp only [opW] at h ⊢
      obtain ⟨x, H', h1, h2, h3⟩ := invokeW_ex h
      have := h2 (List.isEmpty_iff.1 hq)
      subst this
      exact ⟨x, h1, h3⟩
    case builtin b =>
      obtain ⟨al⟩ := args
      obtain ⟨tl⟩ := ats
      cases b <;> simp only at hq <;> try cases hq
      case len =>
        match al, tl with
        | [x], [t] => simp only [opW] at h ⊢; exact fin (lenW_ex s h)
        | [], _ => simp [opW] at h
        | _ :: _ :: _, _ => simp [opW] at h
        | [_], [] => simp [opW] at h
        | [_], _ :: _ :: _ => simp [opW] at h
      case max =>
        match al with
        | [x, y] => simp only [opW] at h ⊢; exact fin (maxW_ex h)
        | [] => simp [opW] at h
        | [_] => simp [opW] at h
        | _ :: _ :: _ :: _ => simp [opW] at h
      case min =>
        match al with
        | [x, y] => simp only [opW] at h ⊢; exact fin (minW_ex h)
        | [] => simp [opW] at h
        | [_] => simp [opW] at h
        | _ :: _ :: _ :: _ => simp [opW] at h
  case slice t x lo hi mx =>
    cases mx with
    | none => exact fin (sliceW_ex h)
    | some _ => simp [opW] at h
  case build t parts =>
    obtain ⟨parts⟩ := parts
    exact fin (buildW_ex h)
  case convert sT d x =>
    simp only [opW] at h ⊢
    split at h
    · rename_i el z1 z2 hi
      split at h
      · rename_i z3 z4 he
        try simp only [hi, he]
        exact fin (convBW_ex h)
      · exact h.elim
    · rename_i i hne hi
      refine fin ?_
      obtain ⟨x, h1, h2⟩ := convW_ex h
      exact ⟨x, h1, h2⟩
    · exact h.elim
  case nilCheck x => exact fin (nilMW_ex h)
  case makeFunc fn first captured =>
    obtain ⟨first⟩ := first
    obtain ⟨captured⟩ := captured
    cases fn
    case method name =>
      match first, captured with
      | [r], [] => simp only [opW] at h ⊢; exact fin (methFW_ex h)
      | [], _ => simp [opW] at h
      | _ :: _ :: _, _ => simp [opW] at h
      | [_], _ :: _ => simp [opW] at h
    all_goals cases first <;> simp only [opW, evsK_eq] at h ⊢ <;> try exact h.elim
    cases hc : capB (captured.map (ev ts)) <;> rw [hc] at h
    · exact h.elim
    · exact ⟨_, h, fun _ h => h⟩

end

/-- An operation looks at its operands alone. -/
theorem opW_congr {E : Env} {o : Oper} {ts ts' : List LV} {H : List Blk} {K : LV → List Blk → Prop} (he : ∀ x ∈ o.op.operands.toList, ev ts x = ev ts' x) (h : opW E o ts H K) : opW E o ts' H K := by
  obtain ⟨dst, op, ty, pos, after, guard⟩ := o
  cases op <;> simp only [opW] at h ⊢ <;> simp only [Op.operands] at he <;> try exact h.elim
  case move x => rw [← he x (by simp)]; exact h
  case assign x => rw [← he x (by simp)]; exact h
  case pick c x y => rw [← he c (by simp), ← he x (by simp), ← he y (by simp)]; exact h
  case alloc => exact h
  case box => rw [← he _ (by simp)]; exact h
  case load => rw [← he _ (by simp)]; exact h
  case store t p x => rw [← he p (by simp), ← he x (by simp)]; exact h
  case binOp op t x y yt => rw [← he x (by simp), ← he y (by simp)]; exact h
  case unOp => rw [← he _ (by simp)]; exact h
  case fieldAddr => rw [← he _ (by simp)]; exact h
  case field => rw [← he _ (by simp)]; exact h
  case indexAddr t x y => rw [← he x (by simp), ← he y (by simp)]; exact h
  case index t x y => rw [← he x (by simp), ← he y (by simp)]; exact h
  case extract => rw [← he _ (by simp)]; exact h
  case makeSlice t l c => rw [← he l (by simp), ← he c (by simp)]; exact h
  case buildSlice t len parts =>
    obtain ⟨parts⟩ := parts
    have e1 : (parts.map (·.2)).map (ev ts) = (parts.map (·.2)).map (ev ts') := List.map_congr_left fun x hx => he x (by simp at hx ⊢; exact hx)
    rw [evsK_eq] at h ⊢
    rw [← e1]; exact h
  case build t parts =>
    obtain ⟨parts⟩ := parts
    have e1 : (parts.map fun p => (p.1, ev ts p.2)) = parts.map fun p => (p.1, ev ts' p.2) := List.map_congr_left fun p hp => by rw [he p.2 (by simp; exact ⟨p.1, hp⟩)]
    rw [← e1]; exact h
  case convert sT d x => rw [← he x (by simp)]; exact h
  case nilCheck x => rw [← he x (by simp)]; exact h
  case range t x => rw [← he x (by simp)]; exact h
  case next x b =>
    cases b
    · exact h.elim
    · simp only at h ⊢; rw [← he x (by simp)]; exact h
  case makeFunc fn first captured =>
    obtain ⟨first⟩ := first
    obtain ⟨captured⟩ := captured
    cases fn
    case method name =>
      match first, captured with
      | [r], [] => simp only at h ⊢; rw [← he r (by simp)]; exact h
      | [], _ => exact h.elim
      | _ :: _ :: _, _ => exact h.elim
      | [_], _ :: _ => exact h.elim
    all_goals cases first <;> simp only [evsK_eq] at h ⊢ <;> try exact h.elim
    have e1 : captured.map (ev ts) = captured.map (ev ts') := List.map_congr_left fun x hx => he x (by simp; exact hx)
    rw [← e1]; exact h
  case slice t x lo hi mx =>
    cases mx with
    | some _ => exact h.elim
    | none =>
      have e1 : lo.map (ev ts) = lo.map (ev ts') := by cases lo with | none => rfl | some z => simp only [Option.map_some]; rw [he z (by simp)]
      have e2 : hi.map (ev ts) = hi.map (ev ts') := by cases hi with | none => rfl | some z => simp only [Option.map_some]; rw [he z (by simp)]
      simp only at h ⊢
      rw [← he x (by simp), ← e1, ← e2]; exact h
  case call c =>
    obtain ⟨callee, args, ats⟩ := c
    simp only [Call.operands] at he
    cases callee <;> try simp only at h ⊢
    all_goals try exact h.elim
    case value f =>
      have h1 : ev ts f = ev ts' f := he f (by simp)
      have h2 : args.toList.map (ev ts) = args.toList.map (ev ts') := List.map_congr_left fun x hx => he x (by simp at hx ⊢; exact .inr hx)
      rw [← h1, ← h2]; exact h
    case invoke r name =>
      have h1 : ev ts r = ev ts' r := he r (by simp)
      have h2 : args.toList.map (ev ts) = args.toList.map (ev ts') := List.map_congr_left fun x hx => he x (by simp at hx ⊢; exact .inr hx)
      rw [← h1, ← h2]; exact h
    case builtin b =>
      obtain ⟨al⟩ := args
      obtain ⟨tl⟩ := ats
      cases b <;> try simp only at h ⊢
      all_goals try exact h.elim
      case len =>
        match al, tl with
        | [x], [t] => simp only at h ⊢; rw [← he x (by simp)]; exact h
        | [], _ => exact h.elim
        | _ :: _ :: _, _ => exact h.elim
        | [_], [] => exact h.elim
        | [_], _ :: _ :: _ => exact h.elim
      case max =>
        match al with
        | [x, y] => simp only at h ⊢; rw [← he x (by simp), ← he y (by simp)]; exact h
        | [] => exact h.elim
        | [_] => exact h.elim
        | _ :: _ :: _ :: _ => exact h.elim
      case min =>
        match al with
        | [x, y] => simp only at h ⊢; rw [← he x (by simp), ← he y (by simp)]; exact h
        | [] => exact h.elim
        | [_] => exact h.elim
        | _ :: _ :: _ :: _ => exact h.elim
      case append =>
        match al, tl with
        | [u, x], [t, t'] => simp only at h ⊢; rw [← he u (by simp), ← he x (by simp)]; exact h
        | [], _ => exact h.elim
        | [_], _ => exact h.elim
        | _ :: _ :: _ :: _, _ => exact h.elim
        | [_, _], [] => exact h.elim
        | [_, _], [_] => exact h.elim
        | [_, _], _ :: _ :: _ :: _ => exact h.elim

/-! ### Any order -/

theorem getD_both {a : Array Bool} {j : Nat} (h : a.getD j true = false) : a.getD j false = false := by
  rw [Array.getD_eq_getD_getElem?] at h ⊢
  cases e : a[j]? with
  | none => rw [e] at h; cases h
  | some b => rw [e] at h; exact h
theorem getD_in {a : Array Bool} {j : Nat} (hj : j < a.size) (h : a.getD j false = false) : a.getD j true = false := by
  rw [Array.getD_eq_getD_getElem?, Array.getElem?_eq_getElem hj] at h ⊢
  exact h

theorem exists_of_Calls {P : Program} {f : FuncId} {args : Array Value} {w : World} {R : Ending → World → Prop} (h : Calls P f args w R) : ∃ e w', R e w' :=
  let ⟨e, w', _, r, _⟩ := h []; ⟨e, w', r⟩

section
variable {E : Env} {X : Nat → Prop} {B : Nat} {W0 : Orig} {ts : List LV} {H : List Blk} {a : Act} {w : World} {pl : Nat → PV}

theorem Sim.next (hE : EnvOK E) (s : Sim X B W0 ⟨ts, H⟩ a w pl) {o : Oper} {K : LV → List Blk → Prop} (h : opW E o ts H K) :
    ∃ x H' a' w' pl', K x H' ∧ Sim X B W0 ⟨Oper.putLV o ts x, H'⟩ a' w' pl' := by
  have := opW_sound hE s h
  unfold OpRes at this
  generalize (execOp a.eval o).run E.P w = r at this
  cases r with
  | halt x w' => exact this.elim
  | ok n w' =>
    cases n with
    | value v => obtain ⟨x, H', pl', h1, h2, h3, _⟩ := this; exact ⟨x, H', _, _, pl', h1, h2.putO o h3⟩
    | skip => obtain ⟨H', pl', h1, h2, _⟩ := this; exact ⟨.undef, H', _, _, pl', h1, h2.putO o (x := .undef) (v := undef) trivial⟩
    | enter f args =>
      obtain ⟨e, w'', v, _, x, H', pl', h1, h2, h3, _⟩ := exists_of_Calls this
      exact ⟨x, H', _, _, pl', h1, h2.putO o h3⟩
    | _ => exact this.elim

/-- One operation under its guard, at the level of the machine. -/
theorem opG_wp (hE : EnvOK E) {all : Array Oper} {i : Nat} {o : Oper} (hi : all[i]? = some o) {K : List LV → List Blk → Prop} {next : Act → World → Prop} {Q : Exit → Act → World → Prop}
    (s : Sim X B W0 ⟨ts, H⟩ a w pl) (h : opsW E all [o] ts H K) (hn : ∀ ts' H' a' w' pl', K ts' H' → Sim X B W0 ⟨ts', H'⟩ a' w' pl' → next a' w') : wpOp E.P all Q i next a w := by
  have go : opW E o ts H (fun x H' => putK o.dst ts x fun ts' => opsW E all [] ts' H' K) → o.wp E.P a w next Q := fun h => by
    refine wp_of_OpRes (opW_sound hE s h) fun x H' a' w' pl' hk hs => ?_
    rw [putK_eq] at hk
    exact hn _ H' a' w' pl' hk hs
  have skip : putK o.dst ts (.tup []) (fun ts' => opsW E all [] ts' H K) → next (a.put o.dst undef) w := fun h => by
    rw [putK_eq] at h
    exact hn _ H _ w pl h (s.putO o (x := .tup []) RT_none)
  rw [opsW_c] at h
  unfold opsStep at h
  unfold wpOp
  simp only [hi]
  cases hg : o.guard with
  | none =>
    rw [hg] at h
    rw [if_pos (by simp [Region.wanted, hg])]
    exact .inl (go h)
  | some jw =>
    obtain ⟨j, want⟩ := jw
    rw [hg] at h
    simp only at h
    cases hd : (all[j]?).bind (·.dst) with
    | none => rw [hd] at h; exact h.elim
    | some d =>
      rw [hd] at h
      simp only at h
      cases hb : ts.getD d .undef <;> rw [hb] at h <;> try exact h.elim
      case tup vs =>
        cases vs with
        | cons _ _ => exact h.elim
        | nil =>
          have hw := wanted_none s hg hd hb
          rw [if_neg (by rw [hw]; decide)]
          exact skip h
      rename_i b
      have hv := ev_sound s (.tmp d)
      have e0 : ev (St.mk ts H).tmps (.tmp d) = .bool b := hb
      rw [e0] at hv
      have hv' : a.tmps.getD d undef = .bool b := RT_bool hv
      have hy : yielded all a.tmps j = some b := by
        have : a.tmps[d]? = some (.bool b) := by
          rw [Array.getD_eq_getD_getElem?] at hv'
          cases ht : a.tmps[d]? with
          | none => rw [ht] at hv'; simp [undef] at hv'
          | some v => rw [ht] at hv'; simp at hv'; rw [hv']
        simp [yielded, hd, this]
      have hw : Region.wanted o (yielded all a.tmps) = (b == want) := by simp [Region.wanted, hg, hy]
      rw [hw]
      cases want <;> simp only [br] at h <;> cases b <;> first
        | (rw [if_pos (by rfl)]; first | exact .inl (go (h.1 rfl)) | exact .inl (go (h.2 rfl)))
        | (rw [if_neg (by decide)]; first | exact skip (h.1 rfl) | exact skip (h.2 rfl))

end

/-- Operations that look at temporaries alone. -/
def isF (o : Oper) : Bool :=
  match o.op with
  | .move _ | .assign _ | .pick _ _ _ | .unOp _ _ _ | .binOp _ _ _ _ _ | .slice _ _ _ _ _ | .extract _ _ | .build _ _ => true
  | .call ⟨.builtin .max, _, _⟩ => true
  | .call ⟨.builtin .min, _, _⟩ => true
  | _ => false

theorem isF_Q {hf : List Nat} {o : Oper} (h : isF o = true) : isQ hf o = true := by
  obtain ⟨dst, op, ty, pos, after, guard⟩ := o
  cases op <;> simp only [isF] at h <;> first
    | rfl
    | (cases h; done)
    | (rename_i c
       obtain ⟨callee, args, ats⟩ := c
       cases callee
       case value f => exact absurd h Bool.false_ne_true
       case invoke => exact absurd h Bool.false_ne_true
       case builtin b => cases b <;> first | rfl | (exact absurd h Bool.false_ne_true))

/-! ### More blocks behind -/

/-- What was there is there. -/
def Ext (H H' : List Blk) : Prop := ∀ (id : Nat) (b : Blk), H[id]? = some b → H'[id]? = some b
theorem Ext.refl (H : List Blk) : Ext H H := fun _ _ h => h
theorem Ext.push (H : List Blk) (c : Blk) : Ext H (H ++ [c]) := fun id b h => by
  rw [List.getElem?_append_left (lt_of_get h)]; exact h

/-- Lays a block behind, and looks at nothing. -/
def isA (o : Oper) : Bool := match o.op with | .alloc _ => true | .buildSlice _ _ _ => true | _ => false
/-- Reads what is there: more blocks behind are as good. -/
def isE (hf : List Nat) (o : Oper) : Bool := match o.op with | .load _ _ => true | .fieldAddr _ _ _ => true | .indexAddr _ _ _ => true | .build _ _ => true | .call ⟨.value (.func g), _, _⟩ => !memB hf g | _ => false
theorem isE_Q {hf : List Nat} {o : Oper} (h : isE hf o = true) : isQ hf o = true := by
  unfold isE at h
  unfold isQ
  split at h
  · rename_i e; rw [e]
  · rename_i e; rw [e]
  · rename_i e; rw [e]
  · rename_i e; rw [e]
  · rename_i e; rw [e]; exact h
  · cases h

theorem fieldAddrE_ext {T : Tab} {H Hj : List Blk} (hx : Ext H Hj) {t : TypeId} {p : LV} {f : Nat} {K : LV → Prop} (h : fieldAddrE T H t p f K) : fieldAddrE T Hj t p f K := by
  unfold fieldAddrE at h ⊢
  split at h
  · rename_i fts offs sz by' hi
    try simp only [hi]
    split at h
    · rename_i ft off e1 e2
      try simp only [e1, e2]
      cases hft : T ft with
      | none => rw [hft] at h; exact h.elim
      | some fi =>
        rw [hft] at h
        simp only at h ⊢
        cases hb : Nat.beq fi.size 0 <;> rw [hb] at h
        · try simp only [hb] at h ⊢
          cases p
          case ref c => cases c <;> exact h
          all_goals try exact h
          rename_i id n path
          simp only at h ⊢
          cases hc : H[id]? with
          | none => rw [hc] at h; exact h.elim
          | some b => rw [hc] at h; rw [hx _ _ hc]; exact h
        · exact h.elim
    · exact h.elim
  · exact h.elim
theorem indexAddrW_ext {T : Tab} {H Hj : List Blk} (hx : Ext H Hj) {t : TypeId} {p ix : LV} {K : LV → Prop} (h : indexAddrW T H t p ix K) : indexAddrW T Hj t p ix K := by
  unfold indexAddrW at h ⊢
  split at h
  · rename_i e sz by' hi
    try simp only [hi]
    cases hei : T e with
    | none => rw [hei] at h; exact h.elim
    | some ei =>
      rw [hei] at h
      cases ix <;> simp only at h ⊢ <;> try exact h
      cases p <;> simp only at h ⊢ <;> try exact h
      rename_i id n
      cases hc : H[id]? with
      | none => rw [hc] at h; exact h.elim
      | some b => rw [hc] at h; rw [hx _ _ hc]; exact h
  · exact h.elim

theorem loadE_ext {T : Tab} {H Hj : List Blk} (hx : Ext H Hj) {t : TypeId} {p : LV} {K : LV → Prop} (h : loadE T H t p K) : loadE T Hj t p K := by
  unfold loadE at h ⊢
  cases hi : T t with
  | none => rw [hi] at h; exact h.elim
  | some i =>
    rw [hi] at h
    cases p <;> simp only at h ⊢ <;> try exact h
    rename_i id n path
    cases hc : H[id]? with
    | none => rw [hc] at h; exact h.elim
    | some b => rw [hc] at h; rw [hx _ _ hc]; exact h

theorem capF_ext {H Hj : List Blk} (hx : Ext H Hj) {x y : LV} (h : capF H x = some y) : capF Hj x = some y := by
  cases x <;> simp only [capF] at h ⊢ <;> try exact h
  rename_i id n path
  cases hc : H[id]? with
  | none => rw [hc] at h; cases h
  | some b => rw [hc] at h; rw [hx _ _ hc]; exact h
theorem capFs_ext {H Hj : List Blk} (hx : Ext H Hj) : ∀ (xs ys : List LV), capFs H xs = some ys → capFs Hj xs = some ys
  | [], ys, h => h
  | x :: xs, ys, h => by
    simp only [capFs] at h ⊢
    cases h1 : capF H x with
    | none => rw [h1] at h; cases h
    | some y =>
      rw [h1] at h
      rw [capF_ext hx h1]
      simp only at h ⊢
      cases h2 : capFs H xs with
      | none => rw [h2] at h; cases h
      | some zs => rw [h2] at h; rw [capFs_ext hx xs zs h2]; exact h
mutual
theorem lend0_ext {H Hj : List Blk} (hx : Ext H Hj) : ∀ (x : LV) (K : LV → Bool → Prop), lend0 H x K → lend0 Hj x K
  | .hs id n, K, h => by
    simp only [lend0] at h ⊢
    cases hc : H[id]? with
    | none => rw [hc] at h; exact h.elim
    | some b => rw [hc] at h; rw [hx _ _ hc]; exact h
  | .st fs, K, h => by simp only [lend0] at h ⊢; exact lend0s_ext hx fs _ h
  | .nil, K, h => by simp only [lend0] at h ⊢; exact h
  | .int _ _, K, h => by simp only [lend0] at h ⊢; exact h
  | .bool _, K, h => by simp only [lend0] at h ⊢; exact h
  | .lit _, K, h => by simp only [lend0] at h ⊢; exact h
  | .str _, K, h => by simp only [lend0] at h ⊢; exact h
  | .sl _, K, h => by simp only [lend0] at h ⊢; exact h
  | .ref _, K, h => by simp only [lend0] at h ⊢; exact h
  | .clos f c, K, h => by
    simp only [lend0] at h ⊢
    cases hc : capFs H c with
    | none => rw [hc] at h; exact h.elim
    | some c' => rw [hc] at h; rw [capFs_ext hx c c' hc]; exact h
  | .ifc t fs, K, h => by simp only [lend0] at h ⊢; exact lend0s_ext hx fs _ h
  | .undef, K, h => by simp [lend0] at h
  | .own _ _ _, K, h => by simp [lend0] at h
  | .tup _, K, h => by simp [lend0] at h
  | .hp _ _ _, K, h => by simp [lend0] at h
theorem lend0s_ext {H Hj : List Blk} (hx : Ext H Hj) : ∀ (xs : List LV) (K : List LV → Bool → Prop), lend0s H xs K → lend0s Hj xs K
  | [], K, h => by simp only [lend0s] at h ⊢; exact h
  | x :: xs, K, h => by
    simp only [lend0s] at h ⊢
    obtain ⟨y, b, h1, h2⟩ := lend0_ex x _ h
    have h3 := lend0s_ext hx xs _ h1
    obtain ⟨y', b', ⟨rfl, rfl⟩, h5⟩ := lend0_ex x _ (lend0_ext hx x _ (h2 (fun y' b' => y' = y ∧ b' = b) ⟨rfl, rfl⟩))
    exact h5 _ h3
end

mutual
theorem lend1_ext {H Hj : List Blk} (hx : Ext H Hj) : ∀ (x : LV) (K : LV → Bool → Prop), lend1 H x K → lend1 Hj x K
  | .hs id n, K, h => by simp only [lend1] at h ⊢; exact lend0_ext hx _ _ h
  | .st fs, K, h => by simp only [lend1] at h ⊢; exact lend0s_ext hx fs _ h
  | .nil, K, h => by simp only [lend1] at h ⊢; exact lend0_ext hx _ _ h
  | .int _ _, K, h => by simp only [lend1] at h ⊢; exact h
  | .bool _, K, h => by simp only [lend1] at h ⊢; exact h
  | .lit _, K, h => by simp only [lend1] at h ⊢; exact h
  | .str _, K, h => by simp only [lend1] at h ⊢; exact h
  | .sl _, K, h => by simp only [lend1] at h ⊢; exact h
  | .ref _, K, h => by simp only [lend1] at h ⊢; exact h
  | .clos f c, K, h => by simp only [lend1] at h ⊢; exact lends_ext hx c _ h
  | .ifc t fs, K, h => by simp only [lend1] at h ⊢; exact lend0s_ext hx fs _ h
  | .hp id n p, K, h => by
    simp only [lend1] at h ⊢
    cases hc : H[id]? with
    | none => rw [hc] at h; exact h.elim
    | some b =>
      rw [hc] at h; rw [hx _ _ hc]
      cases b <;> simp only at h ⊢ <;> try exact h
      rename_i c
      cases hg : getP c p with
      | none => rw [hg] at h; exact h.elim
      | some y => rw [hg] at h; exact lend0_ext hx _ _ h
  | .undef, K, h => by simp [lend1] at h
  | .own _ _ _, K, h => by simp [lend1] at h
  | .tup _, K, h => by simp [lend1] at h
theorem lends_ext {H Hj : List Blk} (hx : Ext H Hj) : ∀ (xs : List LV) (K : List LV → Bool → Prop), lends H xs K → lends Hj xs K
  | [], K, h => by simp only [lends] at h ⊢; exact h
  | x :: xs, K, h => by
    simp only [lends] at h ⊢
    obtain ⟨y, b, h1, h2⟩ := lend1_ex x _ h
    have h3 := lends_ext hx xs _ h1
    obtain ⟨y', b', ⟨rfl, rfl⟩, h5⟩ := lend1_ex x _ (lend1_ext hx x _ (h2 (fun y' b' => y' = y ∧ b' = b) ⟨rfl, rfl⟩))
    exact h5 _ h3
end

theorem opW_ext {E : Env} {ts : List LV} {H : List Blk} {o : Oper} (hf : isE E.hf o = true) {Hj : List Blk} (hx : Ext H Hj) {k k2 : LV → List Blk → Prop} (hk : ∀ x, k x H → k2 x Hj) (h : opW E o ts H k) : opW E o ts Hj k2 := by
  obtain ⟨dst, op, ty, pos, after, guard⟩ := o
  cases op <;> simp only [isE] at hf <;> try (exact absurd hf (by decide))
  case load t x =>
    simp only [opW] at h ⊢
    obtain ⟨y, h1, h2⟩ := loadE_ex h
    exact loadE_ext hx (h2 (fun v => k2 v Hj) (hk _ h1))
  case fieldAddr t x f =>
    simp only [opW] at h ⊢
    obtain ⟨y, h1, h2⟩ := fieldAddrE_ex h
    exact fieldAddrE_ext hx (h2 (fun v => k2 v Hj) (hk _ h1))
  case indexAddr t x i =>
    simp only [opW] at h ⊢
    obtain ⟨y, h1, h2⟩ := indexAddrW_ex h
    exact indexAddrW_ext hx (h2 (fun v => k2 v Hj) (hk _ h1))
  case build t parts =>
    obtain ⟨parts⟩ := parts
    simp only [opW] at h ⊢
    obtain ⟨y, h1, h2⟩ := buildW_ex h
    exact h2 (fun v => k2 v Hj) (hk _ h1)
  case call c =>
    obtain ⟨callee, args, ats⟩ := c
    cases callee <;> try (exact absurd hf Bool.false_ne_true)
    rename_i f
    cases f <;> try (exact absurd hf Bool.false_ne_true)
    rename_i g
    have hm : memB E.hf g = false := by simpa using hf
    simp only [opW, ev] at h ⊢
    obtain ⟨x, H', h1, h2, h3⟩ := callG_ex h
    have e := h2 hm
    subst e
    have h4 := h3 (fun v H'' => k2 v Hj) (hk _ h1)
    unfold callG at h4 ⊢
    cases hcap : ([] : List LV).all cap1 <;> rw [hcap] at h4
    · exact h4.elim
    simp only [hm] at h4 ⊢
    exact lends_ext hx _ _ h4

theorem storeE_ex {T : Tab} {H : List Blk} {t : TypeId} {p x : LV} {K : Nat → Blk → Prop} (h : storeE T H t p x K) : ∃ id b, K id b ∧ ∀ K' : Nat → Blk → Prop, K' id b → storeE T H t p x K' := by
  unfold storeE at h ⊢
  cases hi : T t with
  | none => rw [hi] at h; exact h.elim
  | some i =>
    rw [hi] at h
    cases p <;> simp only at h ⊢ <;> try exact h.elim
    rename_i id n path
    cases hc : H[id]? with
    | none => rw [hc] at h; exact h.elim
    | some b =>
      rw [hc] at h
      rcases b with _ | _ | ⟨_ | _, _, _, _⟩ | _ | _ <;> simp only at h ⊢ <;> try exact h.elim
      · rename_i c
        cases hg : getP c path with
        | none => rw [hg] at h; exact h.elim
        | some y =>
          rw [hg] at h
          simp only at h ⊢
          cases hf : fitT i x with
          | false => rw [hf] at h; exact h.elim
          | true =>
            rw [hf] at h
            simp only at h ⊢
            cases hs : same y x with
            | false => rw [hs] at h; exact h.elim
            | true =>
              rw [hs] at h
              simp only [deepK_eq] at h ⊢
              exact ⟨_, _, h, fun _ h => h⟩
      · obtain ⟨hn, j, q, y, h1, h2, h3, h4, h5, zs, h7, h6⟩ := h; exact ⟨_, _, h6, fun _ h => ⟨hn, j, q, y, h1, h2, h3, h4, h5, zs, h7, h⟩⟩

section
variable {E : Env} {X : Nat → Prop} {B : Nat} {W0 : Orig} {ts : List LV} {H : List Blk} {a : Act} {w : World} {pl : Nat → PV}

/-- Every operation lays one value and leaves one state of the blocks. -/
theorem opW_det (s : Sim X B W0 ⟨ts, H⟩ a w pl) {o : Oper} {K : LV → List Blk → Prop} (h : opW E o ts H K) :
    ∃ x H', K x H' ∧ (isQ E.hf o = true → H' = H) ∧ (isA o = true → Ext H H') ∧ ∀ K' : LV → List Blk → Prop, K' x H' → opW E o ts H K' := by
  cases hq : isQ E.hf o with
  | true => obtain ⟨x, h1, h2⟩ := opW_ex s hq h; exact ⟨x, H, h1, fun _ => rfl, fun _ => Ext.refl H, h2⟩
  | false =>
    obtain ⟨dst, op, ty, pos, after, guard⟩ := o
    cases op <;> simp only [isQ] at hq <;> try (exact absurd hq (by decide))
    case box t x =>
      simp only [opW] at h ⊢
      simp only [deepK_eq, appK_eq] at h ⊢
      cases e : okBox (ev ts x) <;> rw [e] at h
      · exact h.elim
      · exact ⟨_, _, h, fun h => (by cases h), fun h => (by cases h), fun _ h => h⟩
    case alloc t =>
      simp only [opW] at h ⊢
      simp only [appK_eq] at h ⊢
      cases e : E.Z t <;> rw [e] at h
      · simp only at h ⊢
        cases e' : bdOf E.bd t <;> rw [e'] at h
        · exact h.elim
        · exact ⟨_, _, h, fun h => (by cases h), fun _ => Ext.push _ _, fun _ h => h⟩
      · exact ⟨_, _, h, fun h => (by cases h), fun _ => Ext.push _ _, fun _ h => h⟩
    case store t p x =>
      simp only [opW] at h ⊢
      obtain ⟨id, b, h1, h2⟩ := storeE_ex h
      rw [setHK_eq] at h1
      exact ⟨_, _, h1, fun h => (by cases h), fun h => (by cases h), fun K' h => h2 _ (by rw [setHK_eq]; exact h)⟩
    case makeSlice t l c =>
      simp only [opW] at h ⊢
      obtain ⟨x, H', h1, h2⟩ := makeW_ex h
      exact ⟨x, H', h1, fun h => (by cases h), fun h => (by cases h), fun K' h => h2 _ h⟩
    case buildSlice t len parts =>
      obtain ⟨parts⟩ := parts
      simp only [opW, evsK_eq] at h ⊢
      obtain ⟨x, c, h1, h2⟩ := buildSliceW_push h
      exact ⟨x, _, h1, fun h => (by cases h), fun _ => Ext.push _ _, fun K' h => h2 _ h⟩
    case range t x =>
      simp only [opW] at h ⊢
      split at h
      · rename_i sz by' hi
        try simp only [hi]
        cases e : ev ts x <;> rw [e] at h <;> simp only at h ⊢ <;> try exact h.elim
        rw [appK_eq] at h
        exact ⟨_, _, h, fun h => (by cases h), fun h => (by cases h), fun K' k => by rw [appK_eq]; exact k⟩
      · exact h.elim
    case next x b =>
      cases b
      · simp only [opW] at h
      · obtain ⟨x, H', h1, h2⟩ := nextW_ex h
        exact ⟨x, H', h1, fun h => (by cases h), fun h => (by cases h), fun K' h => h2 _ h⟩
    case call c =>
      obtain ⟨callee, args, ats⟩ := c
      cases callee
      case value f =>
        simp only [opW] at h ⊢
        cases e : ev ts f <;> rw [e] at h <;> simp only at h ⊢ <;> try exact h.elim
        obtain ⟨x, H', h1, _, h3⟩ := callG_ex h
        exact ⟨x, H', h1, fun h => (by cases h), fun h => (by cases h), h3⟩
      case invoke r name =>
        simp only [opW] at h ⊢
        obtain ⟨x, H', h1, _, h3⟩ := invokeW_ex h
        exact ⟨x, H', h1, fun h => (by cases h), fun h => (by cases h), h3⟩
      case builtin b =>
        obtain ⟨al⟩ := args
        obtain ⟨tl⟩ := ats
        cases b
        case append =>
          match al, tl with
          | [u, x], [t, t'] =>
            simp only [opW] at h ⊢
            split at h
            · rename_i htt
              try simp only [htt]
              obtain ⟨x, H', h1, h2⟩ := appendW_ex h
              exact ⟨x, H', h1, fun h => (by cases h), fun h => (by cases h), fun K' h => h2 _ h⟩
            · exact h.elim
          | [], _ => simp [opW] at h
          | [_], _ => simp [opW] at h
          | _ :: _ :: _ :: _, _ => simp [opW] at h
          | [_, _], [] => simp [opW] at h
          | [_, _], [_] => simp [opW] at h
          | [_, _], _ :: _ :: _ :: _ => simp [opW] at h
        all_goals first | (simp only [opW] at h; done) | (simp at hq; done) | exact h.elim
    all_goals first | (simp only [opW] at h; done) | exact h.elim

/-- An operation is done from here with whatever is asked of what it lays and leaves. -/
def Yl (E : Env) (all : Array Oper) (o : Oper) (x : LV) (ts : List LV) (H H' : List Blk) : Prop :=
  ∀ K' : List LV → List Blk → Prop, K' (Oper.putLV o ts x) H' → opsW E all [o] ts H K'

def SimEx (ts : List LV) (H : List Blk) : Prop := ∃ X B W0 a w pl, Sim X B W0 ⟨ts, H⟩ a w pl

theorem opG_ex (hE : EnvOK E) {all : Array Oper} {o : Oper} (hs : SimEx ts H) {K : List LV → List Blk → Prop} (h : opsW E all [o] ts H K) :
    ∃ x H', K (Oper.putLV o ts x) H' ∧ (isQ E.hf o = true → H' = H) ∧ (isA o = true → Ext H H') ∧ Yl E all o x ts H H' ∧ SimEx (Oper.putLV o ts x) H' := by
  obtain ⟨X, B, W0, a, w, pl, s⟩ := hs
  have go : opW E o ts H (fun x H' => putK o.dst ts x fun ts' => opsW E all [] ts' H' K) →
      ∃ x H', K (Oper.putLV o ts x) H' ∧ (isQ E.hf o = true → H' = H) ∧ (isA o = true → Ext H H') ∧ (∀ K' : List LV → List Blk → Prop, K' (Oper.putLV o ts x) H' → opW E o ts H (fun x H' => putK o.dst ts x fun ts' => opsW E all [] ts' H' K')) ∧
        SimEx (Oper.putLV o ts x) H' := fun h => by
    obtain ⟨x, H', h1, h0, hA, h2⟩ := opW_det s h
    rw [putK_eq] at h1
    refine ⟨x, H', h1, h0, hA, fun K' hk => h2 _ (by rw [putK_eq]; exact hk), ?_⟩
    obtain ⟨x', H'', a', w', pl', ⟨rfl, rfl⟩, s'⟩ := s.next hE (h2 (fun y H'' => y = x ∧ H'' = H') ⟨rfl, rfl⟩)
    exact ⟨X, B, W0, a', w', pl', s'⟩
  have skip : putK o.dst ts (.tup []) (fun ts' => opsW E all [] ts' H K) →
      ∃ x H', K (Oper.putLV o ts x) H' ∧ (isQ E.hf o = true → H' = H) ∧ (isA o = true → Ext H H') ∧ (∀ K' : List LV → List Blk → Prop, K' (Oper.putLV o ts x) H' → putK o.dst ts (.tup []) (fun ts' => opsW E all [] ts' H K')) ∧
        SimEx (Oper.putLV o ts x) H' := fun h => by
    rw [putK_eq] at h
    exact ⟨.tup [], H, h, fun _ => rfl, fun _ => Ext.refl H, fun K' hk => by rw [putK_eq]; exact hk, X, B, W0, _, w, pl, s.putO o (x := .tup []) (v := undef) RT_none⟩
  unfold Yl
  simp only [opsW_c] at h ⊢
  unfold opsStep at h ⊢
  cases hg : o.guard with
  | none => rw [hg] at h; exact go h
  | some jw =>
    obtain ⟨j, want⟩ := jw
    rw [hg] at h
    simp only at h ⊢
    cases hd : (all[j]?).bind (·.dst) with
    | none => rw [hd] at h; exact h.elim
    | some d =>
      rw [hd] at h
      simp only at h ⊢
      cases hb : ts.getD d .undef <;> rw [hb] at h <;> try exact h.elim
      case tup vs =>
        cases vs with
        | cons _ _ => exact h.elim
        | nil => exact skip h
      rename_i b
      simp only at h ⊢
      cases want <;> simp only [br] at h ⊢ <;> cases b
      · obtain ⟨x, H', h1, h0, hA, h2, h3⟩ := go (h.2 rfl); exact ⟨x, H', h1, h0, hA, fun K' hk => ⟨fun hh => (by cases hh), fun _ => h2 K' hk⟩, h3⟩
      · obtain ⟨x, H', h1, h0, hA, h2, h3⟩ := skip (h.1 rfl); exact ⟨x, H', h1, h0, hA, fun K' hk => ⟨fun _ => h2 K' hk, fun hh => (by cases hh)⟩, h3⟩
      · obtain ⟨x, H', h1, h0, hA, h2, h3⟩ := skip (h.2 rfl); exact ⟨x, H', h1, h0, hA, fun K' hk => ⟨fun hh => (by cases hh), fun _ => h2 K' hk⟩, h3⟩
      · obtain ⟨x, H', h1, h0, hA, h2, h3⟩ := go (h.1 rfl); exact ⟨x, H', h1, h0, hA, fun K' hk => ⟨fun _ => h2 K' hk, fun hh => (by cases hh)⟩, h3⟩

theorem opW_float {o : Oper} (hf : isF o = true) {H2 : List Blk} {k k2 : LV → List Blk → Prop} (hk : ∀ x, k x H → k2 x H2) (h : opW E o ts H k) : opW E o ts H2 k2 := by
  obtain ⟨dst, op, ty, pos, after, guard⟩ := o
  cases op <;> simp only [isF] at hf <;> try (exact absurd hf (by decide))
  case move => exact hk _ h
  case assign => exact hk _ h
  case pick c x y =>
    simp only [opW] at h ⊢
    cases hb : ev ts c with
    | bool b => rw [hb] at h; cases b <;> exact hk _ h
    | _ => rw [hb] at h; exact h.elim
  case extract x i =>
    simp only [opW] at h ⊢
    cases e : ev ts x <;> rw [e] at h <;> simp only at h ⊢ <;> try exact h.elim
    rename_i vs
    cases hv : vs[i]? with
    | none => rw [hv] at h; exact h.elim
    | some y =>
      rw [hv] at h
      cases y <;> simp only at h ⊢ <;> first | exact h.elim | exact hk _ h
  case build t parts =>
    obtain ⟨parts⟩ := parts
    simp only [opW] at h ⊢
    obtain ⟨y, h1, h2⟩ := buildW_ex h
    exact h2 (fun v => k2 v H2) (hk _ h1)
  case slice t x lo hi mx =>
    cases mx with
    | some _ => simp [opW] at h
    | none =>
      simp only [opW] at h ⊢
      obtain ⟨x, h1, h2⟩ := sliceW_ex h
      exact h2 _ (hk _ h1)
  case call c =>
    obtain ⟨callee, args, ats⟩ := c
    cases callee
    case value f => exact absurd hf Bool.false_ne_true
    case invoke => exact absurd hf Bool.false_ne_true
    rename_i b
    obtain ⟨al⟩ := args
    revert hf h
    cases b <;> intro hf h <;> try (exact absurd hf Bool.false_ne_true)
    case max =>
      match al with
      | [x, y] => simp only [opW] at h ⊢; obtain ⟨x, h1, h2⟩ := maxW_ex h; exact h2 _ (hk _ h1)
      | [] => simp [opW] at h
      | [_] => simp [opW] at h
      | _ :: _ :: _ :: _ => simp [opW] at h
    case min =>
      match al with
      | [x, y] => simp only [opW] at h ⊢; obtain ⟨x, h1, h2⟩ := minW_ex h; exact h2 _ (hk _ h1)
      | [] => simp [opW] at h
      | [_] => simp [opW] at h
      | _ :: _ :: _ :: _ => simp [opW] at h
  case unOp =>
    simp only [opW] at h ⊢
    obtain ⟨x, h1, h2⟩ := unW_ex h
    exact h2 _ (hk _ h1)
  case binOp =>
    simp only [opW] at h ⊢
    obtain ⟨x, h1, h2⟩ := binCW_ex binW_ex h
    exact h2 _ (hk _ h1)

theorem opG_lift {all : Array Oper} {o : Oper} {H2 : List Blk} (mono : ∀ {k k2 : LV → List Blk → Prop}, (∀ x, k x H → k2 x H2) → opW E o ts H k → opW E o ts H2 k2) {K K2 : List LV → List Blk → Prop} (hK : ∀ ts, K ts H → K2 ts H2) (h : opsW E all [o] ts H K) : opsW E all [o] ts H2 K2 := by
  have m1 : opW E o ts H (fun x H' => putK o.dst ts x fun ts' => opsW E all [] ts' H' K) → opW E o ts H2 (fun x H' => putK o.dst ts x fun ts' => opsW E all [] ts' H' K2) := fun h => by
    refine mono (fun x hx => ?_) h
    rw [putK_eq] at hx ⊢
    exact hK _ hx
  have m2 : putK o.dst ts (.tup []) (fun ts' => opsW E all [] ts' H K) → putK o.dst ts (.tup []) (fun ts' => opsW E all [] ts' H2 K2) := fun hx => by
    rw [putK_eq] at hx ⊢
    exact hK _ hx
  simp only [opsW_c] at h ⊢
  unfold opsStep at h ⊢
  cases hg : o.guard with
  | none => rw [hg] at h; exact m1 h
  | some jw =>
    obtain ⟨j, want⟩ := jw
    rw [hg] at h
    simp only at h ⊢
    cases hd : (all[j]?).bind (·.dst) with
    | none => rw [hd] at h; exact h.elim
    | some d =>
      rw [hd] at h
      simp only at h ⊢
      cases hb : ts.getD d .undef <;> rw [hb] at h <;> try exact h.elim
      case tup vs =>
        cases vs with
        | cons _ _ => exact h.elim
        | nil => exact m2 h
      simp only at h ⊢
      cases want <;> simp only [br] at h ⊢
      · exact ⟨fun e => m2 (h.1 e), fun e => m1 (h.2 e)⟩
      · exact ⟨fun e => m1 (h.1 e), fun e => m2 (h.2 e)⟩

theorem opG_float {all : Array Oper} {o : Oper} (hf : isF o = true) {H2 : List Blk} {K K2 : List LV → List Blk → Prop} (hK : ∀ ts, K ts H → K2 ts H2) (h : opsW E all [o] ts H K) : opsW E all [o] ts H2 K2 :=
  opG_lift (fun hk h => opW_float hf hk h) hK h
theorem opG_ext {all : Array Oper} {o : Oper} (hf : isE E.hf o = true) {H2 : List Blk} (hx : Ext H H2) {K K2 : List LV → List Blk → Prop} (hK : ∀ ts, K ts H → K2 ts H2) (h : opsW E all [o] ts H K) : opsW E all [o] ts H2 K2 :=
  opG_lift (fun hk h => opW_ext hf hx hk h) hK h

theorem Yl.float {all : Array Oper} {o : Oper} {x : LV} (hf : isF o = true) (h : Yl E all o x ts H H) (H2 : List Blk) : Yl E all o x ts H2 H2 := fun K' hk =>
  opG_float (H := H) (K := fun ts _ => K' ts H2) hf (fun _ h => h) (h (fun ts _ => K' ts H2) hk)
theorem Yl.ext {all : Array Oper} {o : Oper} {x : LV} (hf : isE E.hf o = true) (h : Yl E all o x ts H H) {H2 : List Blk} (hx : Ext H H2) : Yl E all o x ts H2 H2 := fun K' hk =>
  opG_ext (H := H) (K := fun ts _ => K' ts H2) hf hx (fun _ h => h) (h (fun ts _ => K' ts H2) hk)

end

theorem putLV_comm {o p : Oper} (hne : ∀ d, p.dst = some d → o.dst ≠ some d) (ts : List LV) (x y : LV) : Oper.putLV o (Oper.putLV p ts y) x = Oper.putLV p (Oper.putLV o ts x) y := by
  unfold Oper.putLV
  cases ho : o.dst with
  | none => rfl
  | some d =>
    cases hp : p.dst with
    | none => rfl
    | some d' =>
      simp only
      exact List.set_comm _ _ (fun e => hne d' hp (by rw [ho, e]))

/-- An operation that does not look at a temporary is the same before it is laid and after. -/
theorem opG_put {E : Env} {all : Array Oper} {o p : Oper} (hl : ∀ d, p.dst = some d → d ∉ o.looksAt all) (hne : ∀ d, p.dst = some d → o.dst ≠ some d) {ts : List LV} {y : LV} {H : List Blk} {K : List LV → List Blk → Prop} :
    opsW E all [o] (Oper.putLV p ts y) H K ↔ opsW E all [o] ts H fun ts' H' => K (Oper.putLV p ts' y) H' := by
  have hev : ∀ x ∈ o.op.operands.toList, ev (Oper.putLV p ts y) x = ev ts x := by
    intro x hx
    cases x with
    | tmp t =>
      unfold Oper.putLV
      cases hp : p.dst with
      | none => rfl
      | some d =>
        have : d ≠ t := fun e => hl d hp (by subst e; simp only [Oper.looksAt, List.mem_append, List.mem_filterMap]; exact .inl ⟨_, hx, rfl⟩)
        simp [ev, List.getElem?_set_ne this]
    | _ => rfl
  have hK : ∀ x H', putK o.dst (Oper.putLV p ts y) x (fun ts' => opsW E all [] ts' H' K) = putK o.dst ts x (fun ts' => opsW E all [] ts' H' fun ts' H' => K (Oper.putLV p ts' y) H') := by
    intro x H'
    rw [putK_eq, putK_eq, putLV_comm hne]
    rfl
  have e1 : opW E o (Oper.putLV p ts y) H (fun x H' => putK o.dst (Oper.putLV p ts y) x fun ts' => opsW E all [] ts' H' K) =
      opW E o ts H (fun x H' => putK o.dst ts x fun ts' => opsW E all [] ts' H' fun ts' H' => K (Oper.putLV p ts' y) H') := by
    simp only [hK]
    exact propext ⟨opW_congr hev, opW_congr fun x hx => (hev x hx).symm⟩
  simp only [opsW_c]
  unfold opsStep
  cases hg : o.guard with
  | none => simp only; rw [e1]
  | some jw =>
    obtain ⟨j, want⟩ := jw
    simp only
    cases hd : (all[j]?).bind (·.dst) with
    | none => exact Iff.rfl
    | some d =>
      have hgd : (Oper.putLV p ts y).getD d .undef = ts.getD d .undef := by
        unfold Oper.putLV
        cases hp : p.dst with
        | none => rfl
        | some d' =>
          have : d' ≠ d := fun e => hl d' hp (by subst e; simp [Oper.looksAt, hg, hd])
          simp [List.getElem?_set_ne this]
      simp only [hgd, hK]
      rw [← e1]
      simp only [hK]

theorem Yl.put {E : Env} {all : Array Oper} {o p : Oper} {x y : LV} {ts : List LV} {H H' : List Blk} (hl : ∀ d, p.dst = some d → d ∉ o.looksAt all) (hne : ∀ d, p.dst = some d → o.dst ≠ some d)
    (h : Yl E all o x ts H H') : Yl E all o x (Oper.putLV p ts y) H H' := by
  intro K' hk
  rw [opG_put hl hne]
  refine h _ ?_
  rw [← putLV_comm hne]
  exact hk

theorem opsW_cons {E : Env} {all : Array Oper} {o : Oper} {rest : List Oper} {ts : List LV} {H : List Blk} {K : List LV → List Blk → Prop} :
    opsW E all (o :: rest) ts H K = opsW E all [o] ts H fun ts' H' => opsW E all rest ts' H' K := rfl

/-- The two may come in either order: one looks at temporaries alone, or both only read, or the first reads and the other lays a block behind. -/
def calm (hf : List Nat) (p o : Oper) : Bool := isF p || isF o || (isQ hf p && isQ hf o) || (isE hf p && isA o)

/-- Edges lead back; of two operations the later one follows the earlier one directly, or they have nothing to do with each other. -/
def backB (ops : Array Oper) : Bool := (List.range ops.size).all fun j => match ops[j]? with | none => true | some o => o.after.all fun e => !Region.binds .any e || decide (e.on < j)
/-- The operation j comes behind i in any order. -/
def reachB (ops : Array Oper) : Nat → Nat → Nat → Bool
  | 0, _, _ => false
  | f + 1, j, i => match ops[j]? with
    | some o => o.after.any fun e => Region.binds .any e && (Nat.beq e.on i || (Nat.ble i e.on && reachB ops f e.on i))
    | none => false
def pairB (hf : List Nat) (ops : Array Oper) : Bool := (List.range ops.size).all fun j => (List.range j).all fun i => match ops[i]?, ops[j]? with | some p, some o => (p.apart ops o && calm hf p o) || reachB ops 8 j i | _, _ => true
def drawB (hf : List Nat) (ops : Array Oper) : Bool := backB ops && pairB hf ops

structure DrawOK (hf : List Nat) (ops : Array Oper) : Prop where
  back : ∀ j o, ops[j]? = some o → ∀ e ∈ o.after, Region.binds .any e = true → e.on < j
  pair : ∀ i j p o, i < j → ops[i]? = some p → ops[j]? = some o → reachB ops 8 j i = false → p.apart ops o = true ∧ calm hf p o = true

theorem drawB_spec {hf : List Nat} {ops : Array Oper} (h : drawB hf ops = true) : DrawOK hf ops := by
  simp only [drawB, Bool.and_eq_true] at h
  obtain ⟨h1, h2⟩ := h
  refine ⟨fun j o ho e he hb => ?_, fun i j p o hij hp ho hno => ?_⟩
  · have hlt : j < ops.size := (Array.getElem?_eq_some_iff.1 ho).1
    have := List.all_eq_true.1 h1 j (List.mem_range.2 hlt)
    rw [ho] at this
    have := Array.all_eq_true_iff_forall_mem.1 this e he
    simpa [hb] using this
  · have hlt : j < ops.size := (Array.getElem?_eq_some_iff.1 ho).1
    have := List.all_eq_true.1 (List.all_eq_true.1 h2 j (List.mem_range.2 hlt)) i (List.mem_range.2 hij)
    simp only [hp, ho, hno, Bool.or_false, Bool.and_eq_true] at this
    exact this

/-- What is listed stands on what is listed. -/
def Closed (all : Array Oper) (listed : Array Bool) : Prop := ∀ j oj, all[j]? = some oj → listed.getD j false = true → ∀ e ∈ oj.after, Region.binds .any e = true → listed.getD e.on false = true

theorem reach_listed {all : Array Oper} {listed : Array Bool} (hc : Closed all listed) {i : Nat} : ∀ (f j : Nat), reachB all f j i = true → (∀ oj, all[j]? = some oj → ∀ e ∈ oj.after, Region.binds .any e = true → listed.getD e.on false = true) → listed.getD i false = true
  | 0, _, h, _ => by simp [reachB] at h
  | f + 1, j, h, hl => by
    unfold reachB at h
    cases ho : all[j]? with
    | none => rw [ho] at h; cases h
    | some o =>
      rw [ho] at h
      obtain ⟨e, he, hb⟩ := Array.any_eq_true'.1 h
      simp only [Bool.and_eq_true, Bool.or_eq_true] at hb
      have h1 := hl o ho e he hb.1
      rcases hb.2 with h2 | h2
      · rw [Nat.eq_of_beq_eq_true h2] at h1; exact h1
      · exact reach_listed hc f e.on h2.2 fun oj hoj => hc e.on oj hoj h1

theorem Closed.set {all : Array Oper} {listed : Array Bool} (hc : Closed all listed) {i : Nat} (hi : i ∈ Region.ready .any all listed) : Closed all (listed.setIfInBounds i true) := by
  obtain ⟨_, oi, hoi, hall⟩ := mem_ready.1 hi
  intro j oj hj hl e he hb
  by_cases hij : i = j
  · subst hij
    have : oj = oi := Option.some.inj (hj.symm.trans hoi)
    subst this
    exact getD_set_true (hall e he hb)
  · rw [getD_set_ne false hij] at hl
    exact getD_set_true (hc j oj hj hl e he hb)

/-- The operations that are not listed yet, in any order. -/
def anyW (E : Env) (all : Array Oper) (K : List LV → List Blk → Prop) : Nat → Array Bool → List LV → List Blk → Prop
  | 0, listed, ts, H => (∀ i < all.size, listed.getD i false = true) ∧ K ts H
  | f + 1, listed, ts, H => ((∀ i < all.size, listed.getD i false = true) → K ts H) ∧
    ∀ i ∈ Region.ready .any all listed, ∀ o, all[i]? = some o → opsW E all [o] ts H fun ts' H' => anyW E all K f (listed.setIfInBounds i true) ts' H'

theorem anyW_first {E : Env} (hE : EnvOK E) {all : Array Oper} {K : List LV → List Blk → Prop} {i : Nat} {oi : Oper} {x : LV} (hi : all[i]? = some oi) :
    ∀ (f : Nat) (listed : Array Bool) (ts : List LV) (H H' : List Blk), SimEx ts H → Closed all listed →
      (∀ j oj, all[j]? = some oj → j ≠ i → listed.getD j true = false → reachB all 8 j i = false → oi.apart all oj = true ∧ calm E.hf oi oj = true) →
      i ∈ Region.ready .any all listed → Yl E all oi x ts H H' → (isQ E.hf oi = true → H' = H) → anyW E all K f (listed.setIfInBounds i true) (Oper.putLV oi ts x) H' → anyW E all K (f + 1) listed ts H := by
  have hia : i < all.size := (Array.getElem?_eq_some_iff.1 hi).1
  intro f
  induction f with
  | zero =>
    intro listed ts H H' _ _ hap hr hy hq h
    have h1 := (mem_ready.1 hr).1
    refine ⟨fun hall => ?_, fun j hj o ho => ?_⟩
    · have := hall i hia
      rw [getD_both h1] at this
      cases this
    · by_cases hji : j = i
      · subst hji
        have : o = oi := Option.some.inj (ho.symm.trans hi)
        subst this
        exact hy _ h
      · have h2 := h.1 j (Array.getElem?_eq_some_iff.1 ho).1
        rw [getD_set_ne false (Ne.symm hji), getD_both (mem_ready.1 hj).1] at h2
        cases h2
  | succ f ih =>
    intro listed ts H H' hs hc hap hr hy hq h
    have hun := (mem_ready.1 hr).1
    refine ⟨fun hall => ?_, fun j hj o ho => ?_⟩
    · have := hall i hia
      rw [getD_both hun] at this
      cases this
    · by_cases hji : j = i
      · subst hji
        have : o = oi := Option.some.inj (ho.symm.trans hi)
        subst this
        exact hy _ h
      · obtain ⟨hjun, o', ho', hall⟩ := mem_ready.1 hj
        have : o' = o := Option.some.inj (ho'.symm.trans ho)
        subst this
        have hnot : reachB all 8 j i = false := by
          cases hv : reachB all 8 j i with
          | false => rfl
          | true =>
            have h1 := reach_listed hc 8 j hv fun oj hoj => (by
              have : oj = o' := Option.some.inj (hoj.symm.trans ho')
              subst this
              exact hall)
            rw [getD_both hun] at h1
            cases h1
        obtain ⟨hapart, hcalm⟩ := hap j o' ho hji hjun hnot
        obtain ⟨a1, a2, a3⟩ := Oper.apart_spec hapart
        have a2' : ∀ d, o'.dst = some d → oi.dst ≠ some d := fun d h1 h2 => a2 d h2 h1
        have hap' : ∀ k ok, all[k]? = some ok → k ≠ i → (listed.setIfInBounds j true).getD k true = false → reachB all 8 k i = false → oi.apart all ok = true ∧ calm E.hf oi ok = true := by
          intro k ok hok hki hun' hno
          refine hap k ok hok hki ?_ hno
          by_cases hjk : j = k
          · subst hjk; exact hjun
          · rw [getD_set_ne true hjk] at hun'; exact hun'
        have h1 := h.2 j (ready_mono hj hji) o' ho
        rw [opG_put a1 (fun d h1 => a2 d h1)] at h1
        by_cases hFj : isF o' = true
        · have h2 := opG_float hFj (H2 := H) (K2 := fun ts' H0 => H0 = H ∧ anyW E all K f ((listed.setIfInBounds i true).setIfInBounds j true) (Oper.putLV oi ts' x) H') (fun ts' h => ⟨rfl, h⟩) h1
          obtain ⟨y, Hj, ⟨e1, k1⟩, _, _, k2, s'⟩ := opG_ex hE hs h2
          subst e1
          refine k2 _ (ih _ _ _ H' s' (hc.set hj) hap' (ready_mono hr (Ne.symm hji)) (Yl.put a3 a2' hy) hq ?_)
          rw [Array.setIfInBounds_comm _ _ hji]
          exact k1
        · have hcases : isQ E.hf oi = true ∧ (isF oi = true ∨ isQ E.hf o' = true ∨ (isE E.hf oi = true ∧ isA o' = true)) := by
            simp only [calm, Bool.or_eq_true, Bool.and_eq_true] at hcalm
            rcases hcalm with ((h | h) | h) | h
            · exact ⟨isF_Q h, .inl h⟩
            · exact absurd h hFj
            · exact ⟨h.1, .inr (.inl h.2)⟩
            · exact ⟨isE_Q h.1, .inr (.inr h)⟩
          have hHH := hq hcases.1
          subst hHH
          obtain ⟨y, Hj, k1, hjq, hjA, k2, s'⟩ := opG_ex hE hs h1
          refine k2 _ (ih _ _ _ Hj s' (hc.set hj) hap' (ready_mono hr (Ne.symm hji)) ?_ (fun _ => rfl) ?_)
          · rcases hcases.2 with hF | hQ | ⟨hEi, hA⟩
            · exact (Yl.put a3 a2' hy).float hF Hj
            · have := hjq hQ
              subst this
              exact Yl.put a3 a2' hy
            · exact (Yl.put a3 a2' hy).ext hEi (hjA hA)
          · rw [Array.setIfInBounds_comm _ _ hji]
            exact k1

/-- Told in the order of the text, good in any order. -/
theorem anyW_of_ops {E : Env} (hE : EnvOK E) {all : Array Oper} (hd : DrawOK E.hf all) {K : List LV → List Blk → Prop} :
    ∀ (l : List Oper) (k : Nat) (listed : Array Bool) (ts : List LV) (H : List Blk), k + l.length = all.size → (∀ j, l[j]? = all[k + j]?) → SimEx ts H → listed.size = all.size → (∀ j, j < all.size → listed.getD j true = decide (j < k)) →
      opsW E all l ts H K → anyW E all K l.length listed ts H
  | [], k, listed, ts, H, hk, _, _, hz, hls, h => by
    refine ⟨fun i hi => ?_, h⟩
    have hk : k = all.size := hk
    have := hls i hi
    have hz' : i < listed.size := by omega
    simp [hz'] at this ⊢
    rw [this]; simp; omega
  | o :: l, k, listed, ts, H, hk, hl, hs, hz, hls, h => by
    have h0 : all[k]? = some o := by simpa using (hl 0).symm
    rw [List.length_cons] at hk
    have hka : k < all.size := (Array.getElem?_eq_some_iff.1 h0).1
    rw [opsW_cons] at h
    obtain ⟨x, H', k1, hq, _, k2, s'⟩ := opG_ex hE hs h
    have hf : ∀ j, j < k → listed.getD j false = true := fun j hj => by
      have h1 := hls j (by omega)
      have hz' : j < listed.size := by omega
      simp [hz'] at h1 ⊢
      rw [h1]; simpa using hj
    have hc : Closed all listed := fun j oj hj hlj e he hb => by
      have hja : j < all.size := (Array.getElem?_eq_some_iff.1 hj).1
      have h1 := hls j hja
      have hz' : j < listed.size := by omega
      simp [hz'] at h1 hlj
      rw [hlj] at h1
      have h2 : j < k := by simpa using h1.symm
      have := hd.back j oj hj e he hb
      exact hf _ (by omega)
    refine anyW_first hE h0 l.length listed ts H H' hs hc (fun j oj hoj hjk hun hno => ?_) (mem_ready.2 ⟨by rw [hls k hka]; simp, o, h0, fun e he hb => hf _ (hd.back k o h0 e he hb)⟩) k2 hq
      (anyW_of_ops hE hd l (k + 1) _ _ _ (by omega) (fun j => by have := hl (j + 1); simpa [Nat.add_assoc, Nat.add_comm 1 j] using this) s' (by simp [hz]) (fun j hj => ?_) k1)
    · have hja : j < all.size := (Array.getElem?_eq_some_iff.1 hoj).1
      have h1 := hls j hja
      rw [hun] at h1
      have : k < j := by
        have h2 : ¬ j < k := by simpa using h1.symm
        omega
      exact hd.pair k j o oj this h0 hoj hno
    · by_cases hjk : k = j
      · subst hjk
        have hz' : k < listed.size := by omega
        simp [hz']
      · rw [getD_set_ne true hjk, hls j hj]
        have : (j < k) ↔ (j < k + 1) := by omega
        simp [this]

theorem anyW_sound {E : Env} (hE : EnvOK E) {X : Nat → Prop} {B : Nat} {W0 : Orig} {all : Array Oper} (hd : DrawOK E.hf all) {K : List LV → List Blk → Prop} {Q : Exit → Act → World → Prop}
    (hK : ∀ ts H a w pl, K ts H → Sim X B W0 ⟨ts, H⟩ a w pl → Q .normal a w) :
    ∀ (f : Nat) (listed : Array Bool) (ts : List LV) (H : List Blk) (a : Act) (w : World) (pl : Nat → PV), listed.size = all.size → anyW E all K f listed ts H → Sim X B W0 ⟨ts, H⟩ a w pl → wpAny E.P .any all Q f listed a w
  | 0, listed, ts, H, a, w, pl, hz, h, s => by
    refine ⟨List.eq_nil_iff_forall_not_mem.2 fun j hj => ?_, hK _ _ _ _ _ h.2 s⟩
    obtain ⟨h1, o, h2, _⟩ := mem_ready.1 hj
    have := h.1 j (Array.getElem?_eq_some_iff.1 h2).1
    rw [getD_both h1] at this
    cases this
  | f + 1, listed, ts, H, a, w, pl, hz, h, s => by
    refine ⟨fun hr => ?_, fun i hi => ?_⟩
    · refine hK _ _ _ _ _ (h.1 ?_) s
      intro i
      induction i using Nat.strongRecOn with
      | _ i ih =>
        intro hi
        cases hv : listed.getD i false with
        | true => rfl
        | false =>
          have : i ∈ Region.ready .any all listed := mem_ready.2 ⟨getD_in (by omega) hv, all[i], Array.getElem?_eq_getElem hi, fun e he hb => by
            have := hd.back i _ (Array.getElem?_eq_getElem hi) e he hb
            exact ih _ this (by omega)⟩
          rw [hr] at this
          cases this
    · obtain ⟨h1, o, h2, h3⟩ := mem_ready.1 hi
      exact opG_wp hE h2 s (h.2 i hi o h2) fun ts' H' a' w' pl' k1 s' => anyW_sound hE hd hK f _ ts' H' a' w' pl' (by simp [hz]) k1 s'

/-- A region whose order is open, whatever order is drawn. -/
def RgD (P : Program) (ops : Array Oper) (Q : Exit → Act → World → Prop) (a : Act) (w : World) : Prop :=
  wpAny P .any ops Q ops.size (Array.replicate ops.size false) a { w with drawn := w.drawn + 1 }

theorem oper_post {P : Program} {o : Oper} {K K' : Act → World → Prop} {Q Q' : Exit → Act → World → Prop} {a : Act} {w : World} (hk : ∀ a w, K a w → K' a w) (hq : ∀ e a w, Q e a w → Q' e a w)
    (h : o.wp P a w K Q) : o.wp P a w K' Q' := by
  unfold Oper.wp at h ⊢
  revert h
  generalize (execOp a.eval o).run P w = r
  intro h
  cases r with
  | halt x w' => cases x <;> first | exact h.elim | exact hq _ _ _ h
  | ok x w' =>
    cases x <;> first
      | exact h.elim
      | exact hk _ _ h
      | exact Rows.mono h (fun _ _ h => hk _ _ h)
      | exact Calls.mono h (fun e w h => by
          cases e with
          | returned v => exact hk _ _ h
          | panicked ch => exact hq _ _ _ h
          | outgrown => obtain ⟨a0, w0, h⟩ := h; exact ⟨a0, w0, hq _ _ _ h⟩)

theorem wpAny_post {P : Program} {md : Region.Mode} {ops : Array Oper} {Q Q' : Exit → Act → World → Prop} (hq : ∀ e a w, Q e a w → Q' e a w) : ∀ (fuel : Nat) (listed : Array Bool) (a : Act) (w : World), wpAny P md ops Q fuel listed a w → wpAny P md ops Q' fuel listed a w
  | 0, _, _, _, h => ⟨h.1, hq _ _ _ h.2⟩
  | fuel + 1, listed, a, w, h => ⟨fun e => hq _ _ _ (h.1 e), fun i hi => by
    have h2 := h.2 i hi
    unfold wpOp at h2 ⊢
    split
    · rename_i ho; simp only [ho] at h2; exact wpAny_post hq fuel _ _ _ h2
    · rename_i o ho
      simp only [ho] at h2
      split
      · rename_i hw
        simp only [hw, if_true] at h2
        rcases h2 with h2 | ⟨h2, a0, w0, h3⟩
        · refine .inl ?_
          exact oper_post (fun a w => wpAny_post hq fuel _ a w) hq h2
        · exact .inr ⟨h2, a0, w0, hq _ _ _ h3⟩
      · rename_i hw
        simp only [hw] at h2
        exact wpAny_post hq fuel _ _ _ h2⟩

/-- A region whose order is open, told in the order of the text. -/
theorem draw_sound {E : Env} (hE : EnvOK E) {X : Nat → Prop} {B : Nat} {W0 : Orig} {all : Array Oper} (hd : DrawOK E.hf all) {K : List LV → List Blk → Prop} {Q : Exit → Act → World → Prop}
    (hK : ∀ ts H a w pl, K ts H → Sim X B W0 ⟨ts, H⟩ a w pl → Q .normal a w) {ts : List LV} {H : List Blk} {a : Act} {w : World} {pl : Nat → PV} 
    (h : opsW E all all.toList ts H K) (s : Sim X B W0 ⟨ts, H⟩ a w pl) : RgD E.P all Q a w := by
  unfold RgD
  have s := s.grow (w' := { w with drawn := w.drawn + 1 }) ⟨rfl, rfl, rfl, Nat.le_refl _, fun _ _ => rfl, Nat.le_succ _⟩
  have h1 := anyW_of_ops hE hd all.toList 0 (Array.replicate all.size false) ts H (by simp) (fun j => by simp) ⟨X, B, W0, a, _, pl, s⟩ (by simp) (fun j hj => by simp [hj]) h
  have h2 := anyW_sound hE hd hK _ (Array.replicate all.size false) ts H a _ pl (by simp) h1 s
  simpa using h2

end Go.Lg

