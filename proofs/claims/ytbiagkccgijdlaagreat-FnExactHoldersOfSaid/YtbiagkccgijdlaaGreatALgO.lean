/- More operations: the greater and the smaller of two integers, slice expressions, a row that is made. -/
import Derived.Test.YtbiagkccgijdlaaGreatALgJ
import Derived.BigFrame
namespace Go.Lg
variable [GI]
set_option linter.unusedSectionVars false
set_option linter.unusedVariables false
set_option linter.unusedSimpArgs false
open Go.RowKit

@[irreducible] def maxI (a b : Int) : Int := if b > a then b else a
@[irreducible] def minI (a b : Int) : Int := if b < a then b else a

def maxW (x y : LV) (K : LV → Prop) : Prop :=
  match x, y with
  | .int k a, .int k' b => match Nat.beq (kc k) (kc k') with | true => K (.int k (maxI a b)) | false => False
  | _, _ => False
def minW (x y : LV) (K : LV → Prop) : Prop :=
  match x, y with
  | .int k a, .int k' b => match Nat.beq (kc k) (kc k') with | true => K (.int k (minI a b)) | false => False
  | _, _ => False

theorem maxW_ex {x y : LV} {K : LV → Prop} (h : maxW x y K) : ∃ z, K z ∧ ∀ K' : LV → Prop, K' z → maxW x y K' := by
  cases x <;> cases y <;> simp only [maxW] at h ⊢ <;> try exact h.elim
  rename_i k a k' b
  cases e : Nat.beq (kc k) (kc k') <;> rw [e] at h
  · exact h.elim
  · exact ⟨_, h, fun _ h => h⟩
theorem minW_ex {x y : LV} {K : LV → Prop} (h : minW x y K) : ∃ z, K z ∧ ∀ K' : LV → Prop, K' z → minW x y K' := by
  cases x <;> cases y <;> simp only [minW] at h ⊢ <;> try exact h.elim
  rename_i k a k' b
  cases e : Nat.beq (kc k) (kc k') <;> rw [e] at h
  · exact h.elim
  · exact ⟨_, h, fun _ h => h⟩

/-- A bound of a slice expression. -/
def bdW (o : Option LV) (dflt n : Nat) : Prop :=
  match o with
  | none => n = dflt
  | some (.int _ i) => i = (n : Int)
  | _ => False

def sliceW (T : Tab) (t : TypeId) (x : LV) (lo hi : Option LV) (K : LV → Prop) : Prop :=
  match T t with
  | some ⟨.slice e, _, _⟩ => match T e with
    | some ei => match x with
      | .nil => bdW lo 0 0 ∧ bdW hi 0 0 ∧ K .nil
      | .sl xs => ∃ l h : Nat, bdW lo 0 l ∧ bdW hi xs.length h ∧ l ≤ h ∧ h ≤ xs.length ∧ (∀ x ∈ xs, x.size = ei.size) ∧ K (.sl ((xs.drop l).take (h - l)))
      | _ => False
    | none => False
  | some ⟨.str, _, _⟩ => match x with
    | .str s => ∃ l h : Nat, bdW lo 0 l ∧ bdW hi s.size h ∧ l ≤ h ∧ h ≤ s.size ∧ K (.str (s.extract l h))
    | _ => False
  | _ => False

theorem sliceW_ex {T : Tab} {t : TypeId} {x : LV} {lo hi : Option LV} {K : LV → Prop} (h : sliceW T t x lo hi K) : ∃ z, K z ∧ ∀ K' : LV → Prop, K' z → sliceW T t x lo hi K' := by
  unfold sliceW at h ⊢
  split at h
  · rename_i e sz by' hi
    try simp only [hi]
    cases hei : T e with
    | none => rw [hei] at h; exact h.elim
    | some ei =>
      rw [hei] at h
      cases x <;> simp only at h ⊢ <;> try exact h.elim
      · exact ⟨_, h.2.2, fun _ h' => ⟨h.1, h.2.1, h'⟩⟩
      · obtain ⟨l, u, h1, h2, h3, h4, h5, h6⟩ := h; exact ⟨_, h6, fun _ h' => ⟨l, u, h1, h2, h3, h4, h5, h'⟩⟩
  · rename_i sz by' hi
    try simp only [hi]
    cases x <;> simp only at h ⊢ <;> try exact h.elim
    obtain ⟨l, u, h1, h2, h3, h4, h6⟩ := h; exact ⟨_, h6, fun _ h' => ⟨l, u, h1, h2, h3, h4, h'⟩⟩
  · exact h.elim

theorem RCs_split {ρ : Ctx} : ∀ (xs ys : List LV) (es : List Value), RCs ρ (xs ++ ys) es → ∃ e1 e2, es = e1 ++ e2 ∧ RCs ρ xs e1 ∧ RCs ρ ys e2
  | [], ys, es, h => ⟨[], es, rfl, by simp [RCs], h⟩
  | x :: xs, ys, es, h => by
    simp only [List.cons_append, RCs] at h ⊢
    obtain ⟨c1, c2, rfl, h1, h2⟩ := h
    obtain ⟨e1, e2, rfl, h3, h4⟩ := RCs_split xs ys c2 h2
    exact ⟨c1 ++ e1, e2, by simp, ⟨c1, e1, rfl, h1, h3⟩, h4⟩

section
variable {P : Program} {X : Nat → Prop} {B : Nat} {W0 : Orig} {ts : List LV} {H : List Blk} {a : Act} {pl : Nat → PV} {w : World} {T : Tab}

theorem op_max {o : Oper} {x y : Operand} {ats : Array TypeId} (ho : o.op = .call { callee := .builtin .max, args := #[x, y], argTypes := ats }) (s : Sim X B W0 ⟨ts, H⟩ a w pl) {K : LV → List Blk → Prop}
    (h : maxW (ev ts x) (ev ts y) fun v => K v H) : OpRes P o a w X B W0 ts H pl K := by
  have hx := ev_sound s x
  have hy := ev_sound s y
  unfold maxW at h
  split at h
  · rename_i k m k' n ex ey
    split at h
    · rename_i hk
      obtain rfl := kc_inj hk
      rw [ex] at hx
      rw [ey] at hy
      have vx := RT_int hx
      have vy := RT_int hy
      exact OpRes.pure s (v := .int k (if n > m then n else m)) (by simp [execOp, ho, vx, vy, resolve, invoke, builtin, Builtin.max_, Builtin.max2]) h (by unfold maxI; exact RT_mk_int _ _ _)
    · exact h.elim
  · exact h.elim

theorem op_maxS {o : Oper} {x y : Operand} {ats : Array TypeId} (ho : o.op = .call { callee := .builtin .max, args := #[x, y], argTypes := ats }) (s : Sim X B W0 ⟨ts, H⟩ a w pl) {K : LV → List Blk → Prop}
    (h : maxW (ev ts x) (ev ts y) fun v => K v H) : OpResS P o a w X B W0 ts H pl K := by
  have hx := ev_sound s x
  have hy := ev_sound s y
  unfold maxW at h
  split at h
  · rename_i k m k' n ex ey
    split at h
    · rename_i hk
      obtain rfl := kc_inj hk
      rw [ex] at hx
      rw [ey] at hy
      have vx := RT_int hx
      have vy := RT_int hy
      exact OpResS.pure s (v := .int k (if n > m then n else m)) (by simp [execOp, ho, vx, vy, resolve, invoke, builtin, Builtin.max_, Builtin.max2]) h (by unfold maxI; exact RT_mk_int _ _ _)
    · exact h.elim
  · exact h.elim

theorem op_min {o : Oper} {x y : Operand} {ats : Array TypeId} (ho : o.op = .call { callee := .builtin .min, args := #[x, y], argTypes := ats }) (s : Sim X B W0 ⟨ts, H⟩ a w pl) {K : LV → List Blk → Prop}
    (h : minW (ev ts x) (ev ts y) fun v => K v H) : OpRes P o a w X B W0 ts H pl K := by
  have hx := ev_sound s x
  have hy := ev_sound s y
  unfold minW at h
  split at h
  · rename_i k m k' n ex ey
    split at h
    · rename_i hk
      obtain rfl := kc_inj hk
      rw [ex] at hx
      rw [ey] at hy
      have vx := RT_int hx
      have vy := RT_int hy
      exact OpRes.pure s (v := .int k (if n < m then n else m)) (by simp [execOp, ho, vx, vy, resolve, invoke, builtin, Builtin.min_, Builtin.min2]) h (by unfold minI; exact RT_mk_int _ _ _)
    · exact h.elim
  · exact h.elim

theorem op_minS {o : Oper} {x y : Operand} {ats : Array TypeId} (ho : o.op = .call { callee := .builtin .min, args := #[x, y], argTypes := ats }) (s : Sim X B W0 ⟨ts, H⟩ a w pl) {K : LV → List Blk → Prop}
    (h : minW (ev ts x) (ev ts y) fun v => K v H) : OpResS P o a w X B W0 ts H pl K := by
  have hx := ev_sound s x
  have hy := ev_sound s y
  unfold minW at h
  split at h
  · rename_i k m k' n ex ey
    split at h
    · rename_i hk
      obtain rfl := kc_inj hk
      rw [ex] at hx
      rw [ey] at hy
      have vx := RT_int hx
      have vy := RT_int hy
      exact OpResS.pure s (v := .int k (if n < m then n else m)) (by simp [execOp, ho, vx, vy, resolve, invoke, builtin, Builtin.min_, Builtin.min2]) h (by unfold minI; exact RT_mk_int _ _ _)
    · exact h.elim
  · exact h.elim

theorem run_bound {k : IntKind} {n y : Nat} (h : n ≤ y) (code : BoundsCode) (w : World) : (Instr.sliceBound (.int k (n : Int)) y code).run P w = .ok n w := by
  have := run_sliceBound (P := P) w k (n : Int) y code (by omega) (by omega)
  simpa using this

theorem run_bounds (s : Sim X B W0 ⟨ts, H⟩ a w pl) (isS : Bool) {len cap l h : Nat} {lo hi : Option Operand} (h1 : bdW (lo.map (ev ts)) 0 l) (h2 : bdW (hi.map (ev ts)) len h) (h3 : l ≤ h) (h4 : h ≤ cap) :
    (Instr.sliceBounds isS len cap (lo.map a.eval) (hi.map a.eval) none).run P w = .ok (l, h, cap) w := by
  have go : ∀ {o : Option Operand} {d n : Nat}, bdW (o.map (ev ts)) d n → (o = none ∧ n = d) ∨ ∃ z k, o = some z ∧ a.eval z = .int k (n : Int) := by
    intro o d n hb
    cases o with
    | none => exact .inl ⟨rfl, hb⟩
    | some z =>
      right
      have hz := ev_sound s z
      simp only [Option.map_some, bdW] at hb
      cases e : ev ts z <;> rw [e] at hb <;> try exact hb.elim
      rename_i k i
      have e0 : ev (St.mk ts H).tmps z = .int k i := e
      rw [e0] at hz
      exact ⟨z, k, rfl, by rw [RT_int hz, hb]⟩
  rcases go h1 with ⟨rfl, rfl⟩ | ⟨z1, k1, rfl, e1⟩ <;> rcases go h2 with ⟨rfl, rfl⟩ | ⟨z2, k2, rfl, e2⟩
  · cases isS <;> simp [Instr.sliceBounds]
  · cases isS <;> simp [Instr.sliceBounds, e2, run_bound h4]
  · cases isS <;> simp [Instr.sliceBounds, e1, run_bound h3]
  · cases isS <;> simp [Instr.sliceBounds, e1, e2, run_bound h3, run_bound h4]

theorem op_sliceS (hT : TabOK P T) {o : Oper} {t : TypeId} {x : Operand} {lo hi : Option Operand} (ho : o.op = .slice t x lo hi none) (s : Sim X B W0 ⟨ts, H⟩ a w pl) {K : LV → List Blk → Prop}
    (h : sliceW T t (ev ts x) (lo.map (ev ts)) (hi.map (ev ts)) fun v => K v H) : OpResS P o a w X B W0 ts H pl K := by
  have hx := ev_sound s x
  unfold sliceW at h
  split at h
  · rename_i e sz by' hi'
    obtain ⟨d, hd, hd2, _⟩ := (hT t _ hi').und
    obtain rfl := kind_slice hd2
    cases hei : T e with
    | none => rw [hei] at h; exact h.elim
    | some ei =>
      rw [hei] at h
      simp only at h
      have hsz := run_sizeOf (hT e ei hei)
      split at h
      · rename_i e1
        rw [e1] at hx
        simp [RT, RT1, RC] at hx
        obtain ⟨h1, h2, h3⟩ := h
        have hb := run_bounds (P := P) s true h1 h2 (Nat.le_refl 0) (Nat.le_refl 0)
        refine OpResS.pure s (v := .slice none 0 0) ?_ h3 (by simp [RT, RT1, RC])
        simp [execOp, ho, hx, Instr.sliceAt, Instr.slice, run_underlying hd, hb, hsz]
      · rename_i xs e1
        rw [e1] at hx
        simp only [RT, RT1, RC] at hx
        obtain ⟨a', cap, h1, h2, h3, h4⟩ := hx
        simp at h1
        obtain ⟨l, u, k1, k2, k3, k4, k5, k6⟩ := h
        have hb := run_bounds (P := P) s true (cap := cap) k1 k2 k3 (by omega)
        have hr : (execOp a.eval o).run P w = .ok (.value (.slice (if cap = l then a' else a'.map (·.add (l * ei.size))) (u - l) (cap - l))) w := by
          simp [execOp, ho, h1, Instr.sliceAt, Instr.slice, run_underlying hd, hb, hsz]
        have hlen : ((xs.drop l).take (u - l)).length = u - l := by simp; omega
        refine OpResS.pure s hr k6 ?_
        simp only [RT, RT1, RC]
        refine ⟨_, cap - l, by rw [hlen], by rw [hlen]; omega, by omega, ?_⟩
        rcases h4 with rfl | ⟨ad, es, k, rfl, h5, h6, h7, h8, h9⟩
        · left
          simp
        · right
          have hsplit : xs = xs.take l ++ ((xs.drop l).take (u - l) ++ (xs.drop l).drop (u - l)) := by
            rw [List.take_append_drop, List.take_append_drop]
          rw [hsplit] at h7
          obtain ⟨e1', e2', rfl, m1, m2⟩ := RCs_split _ _ _ h7
          obtain ⟨e3, e4, rfl, m3, m4⟩ := RCs_split _ _ _ m2
          by_cases hc : cap = l
          · have : u = l := by omega
            subst this
            have hnil : (xs.drop u).take (u - u) = [] := by simp
            refine ⟨ad, [], k, by simp [hc], h5, h6, by rw [hnil]; simp [RCs], ⟨h8.1, fun j v hj => by simp at hj⟩, by rw [hnil]; simp⟩
          · refine ⟨ad.add (l * ei.size), e3, k, by simp [hc], ?_, ?_, m3, ?_, fun y hy => h9 y ?_⟩
            · obtain ⟨b, o', sp⟩ := ad
              have hsp : sp = none := h8.1
              subst hsp
              rw [add_none]; exact h5
            · obtain ⟨b, o', sp⟩ := ad
              have hsp : sp = none := h8.1
              subst hsp
              rw [add_none]; exact h6
            · obtain ⟨b, o', sp⟩ := ad
              have hsp : sp = none := h8.1
              subst hsp
              rw [add_none]
              have h10 : CellsAt w ⟨b, o', none⟩ (e1' ++ e3 ++ e4) := by rw [List.append_assoc]; exact h8
              have := h10.mid
              rw [RCs.len _ _ m1, sizes_uniform _ (fun y hy => k5 y (List.mem_of_mem_take hy))] at this
              have hl : (xs.take l).length = l := by simp; omega
              rw [hl] at this
              exact this
            · exact List.mem_of_mem_drop (List.mem_of_mem_take hy)
      · exact h.elim
  · rename_i sz by' hi'
    obtain ⟨d, hd, hd2, _⟩ := (hT t _ hi').und
    obtain rfl := kind_str hd2
    split at h
    · rename_i str e1
      rw [e1] at hx
      obtain ⟨vx, hm⟩ := RT_str hx
      obtain ⟨l, u, k1, k2, k3, k4, k6⟩ := h
      have hb := run_bounds (P := P) s false (cap := str.size) k1 k2 k3 k4
      refine OpResS.pure s (v := .string (str.extract l u)) ?_ k6 (RT_mk_str _ (by simp [ByteArray.size_extract]; omega))
      simp [execOp, ho, vx, Instr.sliceAt, Instr.slice, run_underlying hd, hb]
    · exact h.elim
  · exact h.elim

theorem op_slice (hT : TabOK P T) {o : Oper} {t : TypeId} {x : Operand} {lo hi : Option Operand} (ho : o.op = .slice t x lo hi none) (s : Sim X B W0 ⟨ts, H⟩ a w pl) {K : LV → List Blk → Prop}
    (h : sliceW T t (ev ts x) (lo.map (ev ts)) (hi.map (ev ts)) fun v => K v H) : OpRes P o a w X B W0 ts H pl K := (op_sliceS hT ho s h).res

end

def makeW (T : Tab) (Z : ZTab) (H : List Blk) (t : TypeId) (len cap : LV) (K : LV → List Blk → Prop) : Prop :=
  match T t with
  | some ⟨.slice e, _, _⟩ => match T e with
    | some ei => match Z e with
      | some z => match len, cap with
        | .int _ i, .int _ j => ∃ n : Nat, i = (n : Int) ∧ j = (n : Int) ∧ ei.bytes * n ≤ 281474976710656 ∧ n ≤ maxLen ∧ z.size = ei.size ∧ 0 < ei.size ∧ K (.hs H.length n) (H ++ [.arr e ei.size (List.replicate n z)])
        | _, _ => False
      | none => False
    | none => False
  | _ => False

theorem makeW_ex {T : Tab} {Z : ZTab} {H : List Blk} {t : TypeId} {len cap : LV} {K : LV → List Blk → Prop} (h : makeW T Z H t len cap K) :
    ∃ x H', K x H' ∧ ∀ K' : LV → List Blk → Prop, K' x H' → makeW T Z H t len cap K' := by
  unfold makeW at h ⊢
  split at h
  · rename_i e sz by' hi
    try simp only [hi]
    cases hei : T e with
    | none => rw [hei] at h; exact h.elim
    | some ei =>
      rw [hei] at h
      simp only at h ⊢
      cases hz : Z e with
      | none => rw [hz] at h; exact h.elim
      | some z =>
        rw [hz] at h
        cases len <;> cases cap <;> simp only at h ⊢ <;> try exact h.elim
        obtain ⟨n, h1, h2, h3, h4, h5, h6, h7⟩ := h
        exact ⟨_, _, h7, fun _ h' => ⟨n, h1, h2, h3, h4, h5, h6, h'⟩⟩
  · exact h.elim

theorem RCs_join {ρ : Ctx} : ∀ (xs ys : List LV) (e1 e2 : List Value), RCs ρ xs e1 → RCs ρ ys e2 → RCs ρ (xs ++ ys) (e1 ++ e2)
  | [], _, e1, e2, h1, h2 => by simp only [RCs] at h1; subst h1; exact h2
  | x :: xs, ys, e1, e2, h1, h2 => by
    simp only [RCs, List.cons_append] at h1 ⊢
    obtain ⟨c1, c2, rfl, h3, h4⟩ := h1
    exact ⟨c1, c2 ++ e2, by simp, h3, RCs_join xs ys c2 e2 h4 h2⟩

theorem RCs_made {ρ : Ctx} {z : LV} {zc : Array Value} (h : RC ρ z zc.toList) (hs : 0 < zc.size) : ∀ n : Nat, RCs ρ (List.replicate n z) (madeCells zc (n * zc.size)).toList
  | 0 => by simp [madeCells, RCs]
  | n + 1 => by
    have e : (madeCells zc ((n + 1) * zc.size)).toList = (madeCells zc (n * zc.size)).toList ++ zc.toList := by
      apply List.ext_getElem?
      intro j
      have hsz : (n + 1) * zc.size = n * zc.size + zc.size := Nat.succ_mul _ _
      have h1 : (madeCells zc (n * zc.size)).toList.length = n * zc.size := by simp [madeCells]
      by_cases hj : j < n * zc.size
      · rw [List.getElem?_append_left (by rw [h1]; exact hj)]
        simp [madeCells, hj, hsz, Nat.lt_of_lt_of_le hj (Nat.le_add_right _ _)]
      · rw [List.getElem?_append_right (by rw [h1]; omega), h1]
        by_cases hj2 : j < n * zc.size + zc.size
        · have h2 : j % zc.size = j - n * zc.size := by
            have key : (j - n * zc.size + zc.size * n) % zc.size = j - n * zc.size := by rw [Nat.add_mul_mod_self_left, Nat.mod_eq_of_lt (by omega)]
            rwa [show j - n * zc.size + zc.size * n = j by rw [Nat.mul_comm zc.size n]; omega] at key
          have h3 : j - n * zc.size < zc.size := by omega
          simp [madeCells, hsz, hj2, h2, h3]
        · have h3 : ¬ j - n * zc.size < zc.size := by omega
          simp [madeCells, hsz, hj2, h3]
    rw [e, List.replicate_succ']
    exact RCs_join _ _ _ _ (RCs_made h hs n) ⟨zc.toList, [], by simp, h, by simp [RCs]⟩

section
variable {P : Program} {X : Nat → Prop} {B : Nat} {W0 : Orig} {ts : List LV} {H : List Blk} {a : Act} {pl : Nat → PV} {w : World} {T : Tab} {Z : ZTab}

/-- A row of one's own is new. -/
theorem sim_newArr (s : Sim X B W0 ⟨ts, H⟩ a w pl) {w' : World} (hb : Below w.heap.size w w') {e : TypeId} {k cap : Nat} {xs : List LV} {es : List Value}
    (hr : w'.ownsRow B e k (.slice (some ⟨w.heap.size, 0, none⟩) xs.length cap) xs.length es)
    (hx : RCs (ctx X H pl w).pure xs es) (hk : ∀ x ∈ xs, x.size = k) (h0 : 0 < k) :
    ∃ pl', Sim X B W0 ⟨ts, H ++ [.arr e k xs]⟩ a w' pl' ∧ RT (ctx X (H ++ [.arr e k xs]) pl' w') (.hs H.length xs.length) (.slice (some ⟨w.heap.size, 0, none⟩) xs.length cap) ∧ (ctx X H pl w).Le (ctx X (H ++ [.arr e k xs]) pl' w') := by
  have hu : ∀ b ∈ (Blk.arr e k xs).feet ⟨.slice (some ⟨w.heap.size, 0, none⟩) xs.length cap, []⟩, w.heap.size ≤ b := feet_new fun _ => Nat.le_refl _
  have hle := ctx_push s.good hb (u := ⟨.slice (some ⟨w.heap.size, 0, none⟩) xs.length cap, []⟩) (blk := .arr e k xs) hu
  refine ⟨_, Sim.push s hb hu (feet_nodup _) ⟨es, hr, RCs.mono hle.pure _ _ hx, hk, h0⟩, ?_, hle⟩
  simp only [RT, RT1, RC]
  refine ⟨_, rfl, by simp, ⟨_, _, _, rfl⟩, fun b' ys hy hr' hn => ?_⟩
  rw [upd_same]

theorem op_make (hT : TabOK P T) (hZ : ZOK P Z) {o : Oper} {t : TypeId} {l c : Operand} (ho : o.op = .makeSlice t l c) (s : Sim X B W0 ⟨ts, H⟩ a w pl) {K : LV → List Blk → Prop}
    (h : makeW T Z H t (ev ts l) (ev ts c) K) : OpRes P o a w X B W0 ts H pl K := by
  have hl := ev_sound s l
  have hc := ev_sound s c
  unfold makeW at h
  split at h
  · rename_i e sz by' hi
    obtain ⟨d, hd, hd2, _⟩ := (hT t _ hi).und
    obtain rfl := kind_slice hd2
    cases hei : T e with
    | none => rw [hei] at h; exact h.elim
    | some ei =>
      rw [hei] at h
      simp only at h
      cases hz : Z e with
      | none => rw [hz] at h; exact h.elim
      | some z =>
        rw [hz] at h
        simp only at h
        split at h
        · rename_i k1 i k2 j e1 e2
          rw [e1] at hl
          rw [e2] at hc
          have vl := RT_int hl
          have vc := RT_int hc
          obtain ⟨n, rfl, rfl, h3, h4, h5, h6, h7⟩ := h
          obtain ⟨inf, zv, i1, i2, i3⟩ := hZ e z hz
          obtain ⟨inf', j1, j2, j3⟩ := (hT e ei hei).info
          have : inf' = inf := Option.some.inj (j1.symm.trans i1)
          subst this
          obtain ⟨c1, e3, hrc⟩ := litIn_RC (ρ := (ctx X H pl w).pure) z _ _ i3
          rw [List.append_nil] at e3
          subst e3
          have hzs : zv.cells.size = ei.size := by
            have := RC.len _ _ hrc
            rw [h5] at this
            simpa using this
          obtain ⟨w', r1, r2, r3⟩ := run_make_full (P := P) w B t e inf' zv ei.size hd i1 i2 j2 k1 k2 n (by rw [j3]; exact h3) h4 (s.good.base'.1)
          have hb : Below w.heap.size w w' := ⟨r3.os, r3.tape, r3.output, r3.size, fun k hk => r3.block k hk (by simp), run_drawn _ _ _ _ r1⟩
          have hlen : (List.replicate n z).length = n := by simp
          have hrow : w'.ownsRow B e ei.size (.slice (some ⟨w.heap.size, 0, none⟩) (List.replicate n z).length n) (List.replicate n z).length (madeCells zv.cells (n * ei.size)).toList := by rw [hlen]; exact r2
          have hrs : RCs (ctx X H pl w).pure (List.replicate n z) (madeCells zv.cells (n * ei.size)).toList := by
            rw [← hzs]; exact RCs_made hrc (by omega) n
          obtain ⟨pl', s1, s2, s3⟩ := sim_newArr s hb hrow hrs (fun x hx => by rw [(List.mem_replicate.1 hx).2, h5]) h6
          unfold OpRes
          have hr : (execOp a.eval o).run P w = .ok (.value (.slice (some ⟨w.heap.size, 0, none⟩) n n)) w' := by
            simp [execOp, ho, vl, vc, r1]
          rw [hr]
          rw [hlen] at s2
          exact ⟨_, _, pl', h7, s1, s2, s3⟩
        · exact h.elim
  · exact h.elim

end
end Go.Lg

