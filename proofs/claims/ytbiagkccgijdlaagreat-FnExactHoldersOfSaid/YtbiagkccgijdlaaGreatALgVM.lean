/- Methods by their names: the program's table. -/
import Derived.Test.YtbiagkccgijdlaaGreatALgV
import Derived.IntWalk
namespace Go.Lg
variable [GI]
set_option linter.unusedSectionVars false
set_option linter.unusedVariables false
set_option linter.unusedSimpArgs false
open Go.RowKit

section
variable {P : Program} {w : World}

abbrev MTab := List (TypeId × String × FuncId)
def methB (P : Program) (t : TypeId) (name : String) (f : FuncId) : Bool :=
  match P.info? t with
  | some inf => match inf.methods.find? (·.name == name) with
    | some m => m.path.isEmpty && (match m.func with | some (g, false) => g == f | _ => false) && (match P.underlying t with | some (.pointer _) => false | some _ => true | none => false)
    | none => false
  | none => false
def MOK (P : Program) (M : MTab) : Prop := ∀ t name f, (t, name, f) ∈ M → methB P t name f = true
theorem MOK_of {P : Program} {M : MTab} (h : M.all (fun x => methB P x.1 x.2.1 x.2.2) = true) : MOK P M := fun t name f hm => List.all_eq_true.1 h _ hm

theorem run_callMethod {t : TypeId} {name : String} {f : FuncId} (h : methB P t name f = true) (v : Value) (args : Array Value) :
    (callMethod (.iface t v) name args).run P w = (callFunc f (#[v] ++ args)).run P w := by
  unfold methB at h
  split at h
  · rename_i inf hi
    split at h
    · rename_i m hm
      simp only [Bool.and_eq_true] at h
      obtain ⟨⟨h1, h2⟩, h3⟩ := h
      have hp : m.path = #[] := by simpa using h1
      split at h2
      · rename_i g hg
        have hgf : g = f := by simpa using h2
        subst hgf
        split at h3
        · cases h3
        · rename_i d hnp hd
          have hm' : inf.methods.find? (fun x => x.name == name) = some m := hm
          have hd0 : 0 < Made.depth := by decide
          obtain ⟨n, hn⟩ : ∃ n, P.types.size + Made.depth = n + 1 := Nat.exists_eq_succ_of_ne_zero (by omega)
          have hmeth : (method (n + 1) t v name).run P w = .ok (g, v) w := by
            unfold method
            simp only [Sem.run_bind, typeInfo, program, Sem.run, hi, Result.andThen_ok, Sem.run_pure, hm', hp, follow, hg, receiverAt, run_underlying hd]
            cases d <;> first
              | (exact absurd rfl (hnp _))
              | simp [Place.get, Sem.run]
          simp only [callMethod, Sem.run_bind, program, Sem.run, Result.andThen_ok, hn, hmeth]
        · cases h3
      · cases h2
    · cases h
  · cases h

end

def sliceOW (T : Tab) (H : List Blk) (t : TypeId) (id n : Nat) (lo hi : Option LV) (K : LV → List Blk → Prop) : Prop :=
  match T t with
  | some ⟨.slice e, _, _⟩ => match T e with
    | some ei => match H[id]? with
      | some (.row false e1 k1 xs) => match Nat.beq k1 ei.size with
        | true => n = xs.length ∧ ∃ h : Nat, bdW lo 0 0 ∧ bdW hi xs.length h ∧ h ≤ xs.length ∧ ∃ ys, xs.take h = ys ∧ setHK H id .dead fun H1 => appK H1 (.row false e1 k1 ys) fun H' => K (.hs H.length h) H'
        | false => False
      | _ => False
    | none => False
  | _ => False

def capW (T : Tab) (t : TypeId) (x : LV) (K : LV → Prop) : Prop :=
  match T t with
  | some ⟨.slice _, _, _⟩ => match x with
    | .nil => K (.int .i64 0)
    | _ => False
  | _ => False

/-- The cell of a reading that holds no memory. -/
def cellV : LV → Option Value
  | .int k n => some (.int k n)
  | .bool b => some (.bool b)
  | .str s => some (.string s)
  | .nil => some (.slice none 0 0)
  | .lit v => some v
  | _ => none
def cellsV : List LV → Option (List Value)
  | [] => some []
  | x :: xs => match cellV x with
    | some v => match cellsV xs with | some vs => some (v :: vs) | none => none
    | none => none
def ifcV : LV → Option Value
  | .st fs => match cellsV fs with | some vs => some (.agg vs.toArray) | none => none
  | x => cellV x

def ifcW (T : Tab) (t : TypeId) (x : LV) (K : LV → Prop) : Prop :=
  match T t with
  | some ⟨.other, _, _⟩ => False
  | some _ => match ifcV x with
    | some v => K (.lit (.iface t v))
    | none => (match x with | .st fs => K (.ifc t fs) | _ => False)
  | none => False

theorem cellV_RC {ρ : Ctx} {x : LV} {cs : List Value} {v : Value} (h : RC ρ x cs) (k : cellV x = some v) : cs = [v] := by
  cases x <;> simp only [cellV] at k <;> cases k <;> simp only [RC] at h
  · exact h
  · exact h
  · exact h.1
  · exact h
  · exact h.1
theorem cellsV_RC {ρ : Ctx} : ∀ (xs : List LV) (cs vs : List Value), RCs ρ xs cs → cellsV xs = some vs → cs = vs
  | [], cs, vs, h, k => by simp only [cellsV] at k; cases k; simpa only [RCs] using h
  | x :: xs, cs, vs, h, k => by
    simp only [RCs] at h
    obtain ⟨c1, c2, rfl, h1, h2⟩ := h
    simp only [cellsV] at k
    split at k
    · rename_i v hv
      split at k
      · rename_i us hu
        cases k
        rw [cellV_RC h1 hv, cellsV_RC xs c2 us h2 hu]; rfl
      · cases k
    · cases k
theorem ifcV_RT {ρ : Ctx} {x : LV} {u v : Value} (h : RT ρ x u) (k : ifcV x = some v) : u = v := by
  cases x <;> simp only [ifcV] at k
  case st fs =>
    split at k
    · rename_i vs hv
      cases k
      obtain ⟨cs, rfl, hc⟩ := h
      rw [← cellsV_RC _ _ _ hc hv]
    · cases k
  all_goals first
    | (simp only [cellV] at k; cases k; done)
    | (have := cellV_RC (ρ := ρ) h k; simpa using this)

section
variable {P : Program} {X : Nat → Prop} {B : Nat} {W0 : Orig} {ts : List LV} {H : List Blk} {a : Act} {pl : Nat → PV} {w : World} {T : Tab}

theorem op_cap (hT : TabOK P T) {o : Oper} {t : TypeId} {x : Operand} (ho : o.op = .call { callee := .builtin .cap, args := #[x], argTypes := #[t] }) (s : Sim X B W0 ⟨ts, H⟩ a w pl) {K : LV → List Blk → Prop}
    (h : capW T t (ev ts x) fun v => K v H) : OpRes P o a w X B W0 ts H pl K := by
  have hx := ev_sound s x
  unfold capW at h
  split at h
  · rename_i e' sz by' hi
    obtain ⟨d, hd, hd2, _⟩ := (hT t _ hi).und
    obtain rfl := kind_slice hd2
    split at h
    · rename_i e
      rw [e] at hx
      have e1 : a.eval x = .slice none 0 0 := by simpa [RT, RT1, RC] using hx
      exact OpRes.pure s (v := .int .i64 ((0 : Nat) : Int)) (by simp [execOp, ho, e1, resolve, invoke, builtin, Builtin.cap_, run_underlying hd, goInt]) h (RT_mk_int _ _ _)
    · exact h.elim
  · exact h.elim

theorem op_ifcH (hT : TabOK P T) {o : Oper} {t : TypeId} {x : Operand} (ho : o.op = .makeInterface t x) (s : Sim X B W0 ⟨ts, H⟩ a w pl) {K : LV → Prop}
    (h : ifcW T t (ev ts x) K) : ∃ v y, (∀ w', (execOp a.eval o).run P w' = .ok (.value v) w') ∧ K y ∧ RT (ctx X H pl w) y v := by
  have hx := ev_sound s x
  unfold ifcW at h
  split at h
  · exact h.elim
  · rename_i i hne hi
    obtain ⟨d, hd, hd2, _⟩ := (hT t _ hi).und
    have hni : ∀ ms, d ≠ .interface ms := by
      intro ms e
      subst e
      simp only [kindOf] at hd2
      obtain ⟨k, s1, s2⟩ := i
      simp only at hd2
      subst hd2
      exact hne _ _ rfl
    have e0 : ev (St.mk ts H).tmps x = ev ts x := rfl
    rw [e0] at hx
    have hrun : ∀ w', (execOp a.eval o).run P w' = .ok (.value (.iface t (a.eval x))) w' := by
      intro w'
      simp only [execOp, ho, Instr.makeInterface, Sem.run_bind, run_underlying hd, Result.andThen_ok]
      cases d <;> first | rfl | (exact absurd rfl (hni _))
    split at h
    · rename_i v hv
      have e1 := ifcV_RT hx hv
      rw [e1] at hrun
      refine ⟨.iface t v, _, hrun, h, ?_⟩
      simp [RT, RT1, RC, Value.oneCell']
    · split at h
      · rename_i fs e2
        rw [e2] at hx
        obtain ⟨cs, e3, hc⟩ := hx
        rw [e3] at hrun
        refine ⟨.iface t (.agg cs), _, hrun, h, ?_⟩
        simp only [RT, RT1, RC]
        exact ⟨cs, rfl, hc⟩
      · exact h.elim
  · exact h.elim

theorem op_ifc (hT : TabOK P T) {o : Oper} {t : TypeId} {x : Operand} (ho : o.op = .makeInterface t x) (s : Sim X B W0 ⟨ts, H⟩ a w pl) {K : LV → List Blk → Prop}
    (h : ifcW T t (ev ts x) fun v => K v H) : OpRes P o a w X B W0 ts H pl K := by
  obtain ⟨v, y, h1, h2, h3⟩ := op_ifcH hT ho s h
  exact OpRes.pure s (h1 w) h2 h3

theorem op_sliceO (hT : TabOK P T) {o : Oper} {t : TypeId} {x : Operand} {lo hi : Option Operand} (ho : o.op = .slice t x lo hi none) (s : Sim X B W0 ⟨ts, H⟩ a w pl) {id n : Nat} (ex : ev ts x = .hs id n) {K : LV → List Blk → Prop}
    (h : sliceOW T H t id n (lo.map (ev ts)) (hi.map (ev ts)) K) : OpResS P o a w X B W0 ts H pl K := by
  have hx := ev_sound s x
  have e0 : ev (St.mk ts H).tmps x = ev ts x := rfl
  rw [e0, ex] at hx
  unfold sliceOW at h
  split at h
  · rename_i e sz by' hi'
    obtain ⟨d, hd, hd2, _⟩ := (hT t _ hi').und
    obtain rfl := kind_slice hd2
    split at h
    · rename_i ei hei
      have hsz := run_sizeOf (hT e ei hei)
      split at h
      · rename_i e1 k1 xs hc
        split at h
        · rename_i hk1
          have hk1 := Nat.eq_of_beq_eq_true hk1
          subst hk1
          obtain ⟨hn, u, b1, b2, hu, ys, hys, hK⟩ := h
          rw [setHK_eq, appK_eq] at hK
          simp only [RT, RT1, RC] at hx
          obtain ⟨q, hq1, hq2, _, hq4⟩ := hx
          simp at hq1
          obtain ⟨es, r1, r2, r3, r4⟩ := s.good.ok id _ hc
          have hq : q = pl id := hq4 _ _ hc rfl hn
          have hl : ys.length = u := by rw [← hys]; simp; omega
          have hesl := r1.1
          have hsplit : xs = ys ++ xs.drop u := by rw [← hys, List.take_append_drop]
          have r2' : RCs (ctx X H pl w).pure xs es := r2
          rw [hsplit] at r2'
          obtain ⟨c1, c2, rfl, m1, m2⟩ := RCs_split _ _ _ r2'
          have hys3 : ∀ y ∈ ys, y.size = ei.size := fun y hy => r3 y (by rw [hsplit]; exact List.mem_append_left _ hy)
          have hc1 : c1.length = u * ei.size := by rw [RCs.len _ _ m1, sizes_uniform ys hys3, hl]
          -- the value, and that it owns its row
          have hval : ∃ v', (execOp a.eval o).run P w = .ok (.value v') w ∧ w.ownsRow B e1 ei.size v' ys.length c1 ∧ v'.ownBlock = (pl id).v.ownBlock := by
            rcases r1.2 with ⟨hp, hn0⟩ | ⟨g, cap, cur, hp, hg, hcur, hc1', hc2', hc3, hc4⟩
            · have : u = 0 := by omega
              subst this
              have hb := run_bounds (P := P) s true (len := 0) (cap := 0) b1 (by rw [hn0] at b2; exact b2) (Nat.le_refl 0) (Nat.le_refl 0)
              refine ⟨.slice none 0 0, ?_, ?_, by rw [hp]⟩
              · simp [execOp, ho, hq1, hq, hp, Instr.sliceAt, Instr.slice, run_underlying hd, hb, hsz]
              · have : c1 = [] := List.eq_nil_of_length_eq_zero (by simpa using hc1)
                subst this
                rw [hl]; exact World.ownsRow_nil w B e1 ei.size
            · have hb := run_bounds (P := P) s true (cap := cap) b1 b2 (Nat.zero_le _) (by omega)
              refine ⟨.slice (some ⟨g, 0, none⟩) u cap, ?_, ?_, by rw [hp]; rfl⟩
              · have h0 : (⟨g, 0, none⟩ : Addr).add (0 * ei.size) = ⟨g, 0, none⟩ := by simp [Addr.add]
                by_cases hcz : cap = 0
                · subst hcz
                  simp [execOp, ho, hq1, hq, hp, Instr.sliceAt, Instr.slice, run_underlying hd, hb, hsz]
                · simp [execOp, ho, hq1, hq, hp, Instr.sliceAt, Instr.slice, run_underlying hd, hb, hsz, Addr.add]
              · rw [hl]
                refine ⟨hc1, .inr ⟨g, cap, cur, rfl, hg, hcur, by omega, hc2', hc3, ?_⟩⟩
                have h5 : (cur.toList.take (xs.length * ei.size)).take (u * ei.size) = (c1 ++ c2).take (u * ei.size) := by rw [hc4]
                rw [List.take_take, Nat.min_eq_left (Nat.mul_le_mul_right _ hu), ← hc1, List.take_left'] at h5
                · rw [hc1] at h5; exact h5
                · rfl
          obtain ⟨v', hr, hown, hob⟩ := hval
          have hpb : ∀ g, (pl id).v.ownBlock = some g → g ∈ feet (pl id).v := fun g h => mem_feet.2 (bk_own h)
          obtain ⟨pl', k1, k2, k3⟩ := sim_append (t := false) (F := []) (H1 := H.set id .dead) (v := (pl id).v) (v' := v') (w' := w) (k := ei.size) (zs := ys) (es := c1) (e := e1) s (by simp)
            (fun i b hi => by
              rcases set_get hi with ⟨_, rfl, _⟩ | ⟨_, h⟩
              · exact .inr rfl
              · exact .inl h)
            (fun i b c hi lv hc' => by
              rcases set_get hi with ⟨_, rfl, _⟩ | ⟨hne, h⟩
              · exact lv.elim
              · exact ⟨fun hq => hne (s.good.inj i id b _ c h lv hc trivial hc' (Blk.feet_head (hpb _ hq))), by simp⟩)
            (fun g hg => ⟨id, _, hc, trivial, Blk.feet_head (hpb _ hg), by rw [List.getElem?_set_self (lt_of_get hc)]⟩)
            (by simp) List.nodup_nil ⟨rfl, rfl, rfl, Nat.le_refl _, fun _ _ _ => rfl⟩ hown (.inl hob) m1 hys3 r4
          refine ⟨v', hr, _, _, pl', hK, k1, ?_, k3⟩
          rw [List.length_set, hl] at k2
          exact k2
        · exact h.elim
      · exact h.elim
    · exact h.elim
  · exact h.elim

end

/-! ### append of a number of zeros to nil -/

def appendZW (T : Tab) (Z : ZTab) (H : List Blk) (t t' : TypeId) (u x : LV) (K : LV → List Blk → Prop) : Prop :=
  match T t with
  | some ⟨.slice e, _, _⟩ => match T t' with
    | some ⟨.int _, _, _⟩ => match T e with
      | some ei => match Z e with
        | some z => match u with
          | .nil => match x with
            | .int _ i => ∃ n : Nat, i = (n : Int) ∧ 0 < n ∧ n ≤ maxLen ∧ n * ei.bytes ≤ 140737488355328 ∧ z.size = ei.size ∧ 0 < ei.size ∧ ∃ ys, List.replicate n z = ys ∧ appK H (.arr e ei.size ys) fun H' => K (.hs H.length n) H'
            | _ => False
          | _ => False
        | none => False
      | none => False
    | _ => False
  | _ => False

section
variable {P : Program} {X : Nat → Prop} {B : Nat} {W0 : Orig} {ts : List LV} {H : List Blk} {a : Act} {pl : Nat → PV} {w : World} {T : Tab} {Z : ZTab}

theorem run_append_zeros (t t' ty e : TypeId) (k k' : IntKind) (i : TypeInfo) (z : Value) (ht : P.underlying t = some (.slice e)) (ht' : P.underlying t' = some (.int k')) (hi : P.info? e = some i) (hz : i.zero = some z)
    (n : Nat) (h0 : 0 < n) (hs : 0 < i.size) (h63 : (n : Int) ≤ 9223372036854775807) (h48 : n * i.bytes ≤ 140737488355328) :
    (Builtin.append_ #[t, t'] ty #[.slice none 0 0, .int k (n : Int)]).run P w =
      .ok (.slice (some ⟨w.heap.size, 0, none⟩) n (grownCap w n 0 e)) (w.drew.alloc (.cells (Builtin.zeroCells z.cells n ++ Builtin.zeroCells z.cells (grownCap w n 0 e - n)) e)) := by
  have hw : IntKind.i64.wrap (n : Int) = (n : Int) := by
    have : (n : Int) ≤ 9223372036854775807 := h63
    exact IntWalk.i64_in _ ⟨by omega, by omega⟩
  have hn : n ≠ 0 := by omega
  have h63' : ¬ (9223372036854775807 < (n : Int)) := by omega
  have h48' : ¬ (281474976710656 < Builtin.nextslicecap n 0 * i.bytes) := by rw [nextslicecap_zero h0]; omega
  have hb : ¬ (281474976710656 < (n : Int) * (i.bytes : Int)) := by have : (n : Int) * (i.bytes : Int) = ((n * i.bytes : Nat) : Int) := by simp
                                                                    omega
  have hns : n * i.size ≠ 0 := Nat.ne_of_gt (Nat.mul_pos h0 hs)
  have hneg : ¬ ((n : Int) < 0) := by omega
  simp [Builtin.append_, run_underlying ht, run_underlying ht', sizeOf, typeInfo, zeroValue, hi, hz, asInt, asIntOf, hw, hn, hneg, h63', h48', hb, hns, Int.toNat_natCast, Question.forced, run_firstCells_none, newRow, grownCap]

theorem op_appendZ (hT : TabOK P T) (hZ : ZOK P Z) {o : Oper} {t t' : TypeId} {u x : Operand} (ho : o.op = .call { callee := .builtin .append, args := #[u, x], argTypes := #[t, t'] }) (s : Sim X B W0 ⟨ts, H⟩ a w pl) {K : LV → List Blk → Prop}
    (h : appendZW T Z H t t' (ev ts u) (ev ts x) K) : OpRes P o a w X B W0 ts H pl K := by
  have hu := ev_sound s u
  have hx := ev_sound s x
  have eu0 : ev (St.mk ts H).tmps u = ev ts u := rfl
  have ex0 : ev (St.mk ts H).tmps x = ev ts x := rfl
  rw [eu0] at hu
  rw [ex0] at hx
  unfold appendZW at h
  split at h
  · rename_i e sz by' hi
    obtain ⟨d, hd, hd2, _⟩ := (hT t _ hi).und
    obtain rfl := kind_slice hd2
    split at h
    · rename_i k' sz2 by2 hi'
      obtain ⟨d', hd', hd2', _⟩ := (hT t' _ hi').und
      obtain rfl := kind_int hd2'
      split at h
      · rename_i ei hei
        obtain ⟨inf, hinf, hsz, hby⟩ := (hT e ei hei).info
        split at h
        · rename_i z hz
          obtain ⟨inf', zv, i1, i2, i3⟩ := hZ e z hz
          rw [hinf] at i1
          cases i1
          split at h
          · rename_i eu
            rw [eu] at hu
            have vu : a.eval u = .slice none 0 0 := by simpa [RT, RT1, RC] using hu
            split at h
            · rename_i k i ex
              rw [ex] at hx
              have vx := RT_int hx
              obtain ⟨n, rfl, h0, h1, h2, h3, h4, ys, rfl, hK⟩ := h
              rw [appK_eq] at hK
              obtain ⟨c1, e3, hrc⟩ := litIn_RC (ρ := (ctx X H pl w).pure) z _ _ i3
              rw [List.append_nil] at e3
              subst e3
              have hzs : zv.cells.size = ei.size := by
                have := RC.len _ _ hrc
                rw [h3] at this
                simpa using this
              have hr0 := run_append_zeros (P := P) (w := w) t t' o.type e k k' inf zv hd hd' hinf i2 n h0 (by rw [hsz]; exact h4) (by unfold maxLen at h1; omega) (by rw [hby]; exact h2)
              have hge := grownCap_ge w n 0 e
              have hcm : grownCap w n 0 e ≤ maxLen := grownCap_le_maxLen w n 0 e h1
              have hb : Below w.heap.size w (w.drew.alloc (.cells (Builtin.zeroCells zv.cells n ++ Builtin.zeroCells zv.cells (grownCap w n 0 e - n)) e)) :=
                (Below.refl _ w).drew.alloc (Nat.le_refl _) _
              have hmz : (madeCells zv.cells (n * zv.cells.size)) = Builtin.zeroCells zv.cells n := rfl
              have hlen : (List.replicate n z).length = n := by simp
              have hrow : (w.drew.alloc (.cells (Builtin.zeroCells zv.cells n ++ Builtin.zeroCells zv.cells (grownCap w n 0 e - n)) e)).ownsRow B e ei.size (.slice (some ⟨w.heap.size, 0, none⟩) (List.replicate n z).length (grownCap w n 0 e)) (List.replicate n z).length (Builtin.zeroCells zv.cells n).toList := by
                rw [hlen]
                refine ⟨by rw [Array.length_toList, size_zeroCells, hzs], .inr ⟨w.heap.size, _, _, rfl, s.good.base'.1, heap_alloc_new w.drew _, hge, hcm, ?_, ?_⟩⟩
                · rw [Array.size_append, size_zeroCells, size_zeroCells, hzs, ← Nat.add_mul]; congr 1; omega
                · rw [Array.toList_append, List.take_left']
                  rw [Array.length_toList, size_zeroCells, hzs]
              have hrs : RCs (ctx X H pl w).pure (List.replicate n z) (Builtin.zeroCells zv.cells n).toList := by
                rw [← hmz]; exact RCs_made hrc (by omega) n
              obtain ⟨pl', s1, s2, s3⟩ := sim_newArr s hb hrow hrs (fun x hx => by rw [(List.mem_replicate.1 hx).2, h3]) h4
              unfold OpRes
              have hr : (execOp a.eval o).run P w = .ok (.value (.slice (some ⟨w.heap.size, 0, none⟩) n (grownCap w n 0 e))) (w.drew.alloc (.cells (Builtin.zeroCells zv.cells n ++ Builtin.zeroCells zv.cells (grownCap w n 0 e - n)) e)) := by
                simp only [execOp, ho, resolve, invoke, builtin, Sem.run_bind, Sem.run_pure, Result.andThen_ok, List.map_toArray, List.map_cons, List.map_nil, vu, vx, hr0]
              rw [hr]
              rw [hlen] at s2
              exact ⟨_, _, pl', hK, s1, s2, s3⟩
            · exact h.elim
          · exact h.elim
        · exact h.elim
      · exact h.elim
    · exact h.elim
  · exact h.elim
end

/-! ### Receivers -/


def plainsV : List LV → Bool
  | [] => true
  | .int _ _ :: xs => plainsV xs
  | .bool _ :: xs => plainsV xs
  | .nil :: xs => plainsV xs
  | _ => false
/-- A receiver without memory or text. -/
def plainV : LV → Bool
  | .int _ _ | .bool _ | .nil => true
  | .st fs => plainsV fs
  | _ => false

theorem plainsV_RC {ρ : Ctx} : ∀ (xs : List LV) (vs : List Value), plainsV xs = true → cellsV xs = some vs → RCs ρ xs vs
  | [], vs, _, k => by simp only [cellsV] at k; cases k; simp only [RCs]
  | x :: xs, vs, h, k => by
    simp only [cellsV] at k
    split at k
    · rename_i v hv
      split at k
      · rename_i us hu
        cases k
        cases x <;> simp only [plainsV] at h <;> try cases h
        all_goals
          simp only [cellV] at hv
          cases hv
          simp only [RCs]
          exact ⟨[_], us, rfl, by simp only [RC], plainsV_RC xs us h hu⟩
      · cases k
    · cases k
theorem plainV_RT {ρ : Ctx} {x : LV} {v : Value} (h : plainV x = true) (k : ifcV x = some v) : RT ρ x v := by
  cases x <;> simp only [plainV] at h <;> try cases h
  case st fs =>
    simp only [ifcV] at k
    split at k
    · rename_i vs hv
      cases k
      exact ⟨vs.toArray, rfl, plainsV_RC _ _ h hv⟩
    · cases k
  all_goals
    simp only [ifcV, cellV] at k
    cases k
    simp only [RT, RT1, RC]


/-! ### Method values -/

def methFW (x : LV) (name : String) (K : LV → Prop) : Prop :=
  match x with
  | .lit v => K (.lit (.func (.method name) #[v] #[]))
  | _ => False
def nilMW (M : MTab) (x : LV) (K : LV → Prop) : Prop :=
  match x with
  | .lit v => match v with
    | .func (.method name) ⟨[u]⟩ c => (match u with
      | .iface t z => ∃ (i : Nat) (f : FuncId), M[i]? = some (t, name, f) ∧ K (.lit (.func (.method name) ⟨[.iface t z]⟩ c))
      | _ => False)
    | _ => False
  | y => nilW y K
theorem methFW_ex {x : LV} {name : String} {K : LV → Prop} (h : methFW x name K) : ∃ y, K y ∧ ∀ K' : LV → Prop, K' y → methFW x name K' := by
  unfold methFW at h ⊢
  cases x <;> simp only at h ⊢ <;> first | exact h.elim | exact ⟨_, h, fun _ h => h⟩
theorem nilMW_ex {M : MTab} {x : LV} {K : LV → Prop} (h : nilMW M x K) : ∃ y, K y ∧ ∀ K' : LV → Prop, K' y → nilMW M x K' := by
  unfold nilMW at h ⊢
  split at h
  · split at h
    · split at h
      · obtain ⟨i, f, h1, h2⟩ := h
        exact ⟨_, h2, fun _ k => ⟨i, f, h1, k⟩⟩
      · exact h.elim
    · exact h.elim
  · exact nilW_ex h

section
variable {P : Program} {X : Nat → Prop} {B : Nat} {W0 : Orig} {ts : List LV} {H : List Blk} {a : Act} {pl : Nat → PV} {w : World} {T : Tab}
theorem op_methF {o : Oper} {name : String} {r : Operand} (ho : o.op = .makeFunc (.method name) #[r] #[]) (s : Sim X B W0 ⟨ts, H⟩ a w pl) {K : LV → List Blk → Prop}
    (h : methFW (ev ts r) name fun v => K v H) : OpRes P o a w X B W0 ts H pl K := by
  have hx := ev_sound s r
  have e0 : ev (St.mk ts H).tmps r = ev ts r := rfl
  rw [e0] at hx
  unfold methFW at h
  split at h
  · rename_i v e
    rw [e] at hx
    have hv : a.eval r = v := by simp only [RT, RT1, RC] at hx; simpa using hx.1
    exact OpRes.pure s (v := .func (.method name) #[v] #[]) (by simp [execOp, ho, Instr.makeFunc, hv]) h (by simp [RT, RT1, RC, Value.oneCell'])
  · exact h.elim

theorem run_nilAhead {t : TypeId} {name : String} {f : FuncId} (h : methB P t name f = true) (v : Value) (n : Nat) : (nilAhead (n + 1) t v name).run P w = .ok (some false) w := by
  unfold methB at h
  split at h
  · rename_i inf hi
    split at h
    · rename_i m hm
      simp only [Bool.and_eq_true] at h
      obtain ⟨⟨h1, h2⟩, h3⟩ := h
      have hp : m.path = #[] := by simpa using h1
      split at h2
      · rename_i g hg
        split at h3
        · cases h3
        · rename_i d hnp hd
          unfold nilAhead
          simp only [Sem.run_bind, typeInfo, program, Sem.run, hi, Result.andThen_ok, Sem.run_pure, hm, hp, followBlind, hg, run_underlying hd]
          cases d <;> first
            | (exact absurd rfl (hnp _))
            | simp
        · cases h3
      · cases h2
    · cases h
  · cases h

theorem op_nilMH {M : MTab} (hM : MOK P M) {o : Oper} {x : Operand} (ho : o.op = .nilCheck x) (s : Sim X B W0 ⟨ts, H⟩ a w pl) {K : LV → Prop}
    (h : nilMW M (ev ts x) K) : ∃ v y, (∀ w', (execOp a.eval o).run P w' = .ok (.value v) w') ∧ K y ∧ RT (ctx X H pl w) y v := by
  have hx := ev_sound s x
  have e0 : ev (St.mk ts H).tmps x = ev ts x := rfl
  rw [e0] at hx
  unfold nilMW at h
  split at h
  · rename_i v e
    split at h
    · rename_i name u c
      split at h
      · rename_i t z
        obtain ⟨i, f, hi, hK⟩ := h
        rw [e] at hx
        have hv : a.eval x = .func (.method name) ⟨[.iface t z]⟩ c := by simp only [RT, RT1, RC] at hx; simpa using hx.1
        have hd0 : 0 < Made.depth := by decide
        obtain ⟨n, hn⟩ : ∃ n, P.types.size + Made.depth = n + 1 := Nat.exists_eq_succ_of_ne_zero (by omega)
        refine ⟨.func (.method name) ⟨[.iface t z]⟩ c, _, fun w' => ?_, hK, by simp [RT, RT1, RC, Value.oneCell']⟩
        have h0 := run_nilAhead (w := w') (hM t name f (List.mem_of_getElem? hi)) z n
        have hg : ((⟨[.iface t z]⟩ : Array Value)[0]? : Option Value) = some (.iface t z) := rfl
        simp only [execOp, ho, hv, hg, Sem.run_bind, program, Sem.run, Result.andThen_ok, hn, h0]
        simp
      · exact h.elim
    · exact h.elim
  · exact op_nilCheckH ho s h
theorem op_nilM {M : MTab} (hM : MOK P M) {o : Oper} {x : Operand} (ho : o.op = .nilCheck x) (s : Sim X B W0 ⟨ts, H⟩ a w pl) {K : LV → List Blk → Prop}
    (h : nilMW M (ev ts x) fun v => K v H) : OpRes P o a w X B W0 ts H pl K := by
  obtain ⟨v, y, h1, h2, h3⟩ := op_nilMH hM ho s h
  exact OpRes.pure s (h1 w) h2 h3
end

end Go.Lg

