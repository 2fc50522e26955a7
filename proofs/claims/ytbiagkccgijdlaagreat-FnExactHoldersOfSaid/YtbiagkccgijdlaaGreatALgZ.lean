/- Literals of slices whose elements own rows; the operations of a region in which rows of rows may be opened and taken over. -/
import Derived.Test.YtbiagkccgijdlaaGreatALgZM
import Derived.Test.YtbiagkccgijdlaaGreatALgYC
import Derived.StillTail
namespace Go.Lg
variable [GI]
set_option linter.unusedSectionVars false
set_option linter.unusedVariables false
set_option linter.unusedSimpArgs false
open Go.RowKit
open Go.Great (fill_whole foldl_set)

section
variable {P : Program} {X : Nat → Prop} {B : Nat} {W0 : Orig} {ts : List LV} {H : List Blk} {a : Act} {pl : Nat → PV} {w : World} {T : Tab} {Z : ZTab}

def litS (size : Nat) : List LV → Bool
  | [] => true
  | x :: xs => okBox x && Nat.beq x.size size && litS size xs
theorem litS_all {k : Nat} : ∀ {xs : List LV}, litS k xs = true → ∀ x ∈ xs, okBox x = true ∧ x.size = k
  | [], _ => by simp
  | x :: xs, h => by
    simp only [litS, Bool.and_eq_true, Nat.beq_eq] at h
    intro y hy
    rcases List.mem_cons.1 hy with rfl | hy
    · exact ⟨h.1.1, h.1.2⟩
    · exact litS_all h.2 y hy

def buildSliceT (T : Tab) (Z : ZTab) (H : List Blk) (t : TypeId) (len : Nat) (idx : List Nat) (xs : List LV) (K : LV → List Blk → Prop) : Prop :=
  match T t with
  | some ⟨.slice e, _, _⟩ => match T e with
    | some ei => match Z e with
      | some z => match Nat.beq z.size ei.size && Nat.blt 0 ei.size && Nat.beq len xs.length && seqB 0 idx && litS ei.size xs && Nat.ble (len * ei.size) 16777216 with
        | true => absKs xs H fun ys H0 => appK H0 (.row true e ei.size ys) fun H' => K (.hs H.length len) H'
        | false => False
      | none => False
    | none => False
  | _ => False


theorem RCs_flatMap {ρ : Ctx} : ∀ (xs : List LV) (vs : List Value), xs.length = vs.length → (∀ (i : Nat) x v, xs[i]? = some x → vs[i]? = some v → RC ρ x v.cells.toList) → RCs ρ xs (vs.flatMap fun v => v.cells.toList)
  | [], [], _, _ => by simp [RCs]
  | [], _ :: _, h, _ => by simp at h
  | _ :: _, [], h, _ => by simp at h
  | x :: xs, v :: vs, h, k => by
    simp only [List.flatMap_cons, RCs]
    exact ⟨_, _, rfl, k 0 x v rfl rfl, RCs_flatMap xs vs (by simpa using h) fun i y u hy hu => k (i + 1) y u (by simpa using hy) (by simpa using hu)⟩

/-- With the sizes of each element kept. -/
theorem absKs_sizes (g : Good X B W0 H pl w) : ∀ (xs : List LV) (H1 : List Blk) (K : List LV → List Blk → Prop) (cs : List Value) (b0 : List Nat), AbsOK H pl H1 b0 → RCs (ctx X H pl w) xs cs → absKs xs H1 K →
    ∃ ys H2 bs, K ys H2 ∧ RRcs w (owned X H pl) B ys cs bs ∧ AbsOK H pl H2 (b0 ++ bs) ∧ ys.length = xs.length ∧ ∀ (i : Nat) y x, ys[i]? = some y → xs[i]? = some x → y.size = x.size
  | [], H1, K, cs, b0, ok, h, k => by
    simp only [absKs] at k
    simp only [RCs] at h
    exact ⟨_, H1, [], k, by unfold RRcs; exact ⟨h, rfl⟩, by simpa using ok, rfl, fun i y x hy => by simp at hy⟩
  | x :: xs, H1, K, cs, b0, ok, h, k => by
    simp only [RCs] at h
    obtain ⟨c1, c2, rfl, h1, h2⟩ := h
    simp only [absKs] at k
    obtain ⟨y, H2, b1, k1, k2, k3⟩ := absK_sound g x H1 _ c1 b0 ok h1 k
    obtain ⟨ys, H3, b2, k4, k5, k6, k7, k8⟩ := absKs_sizes g xs H2 _ c2 _ k3 h2 k1
    refine ⟨_, H3, b1 ++ b2, k4, by simp only [RRcs]; exact ⟨c1, c2, b1, b2, rfl, rfl, k2, k5⟩, by rw [← List.append_assoc]; exact k6, by simp [k7], fun i y' x' hy hx => ?_⟩
    cases i with
    | zero =>
      simp at hy hx; subst hy; subst hx
      rw [← RRc.len _ _ _ k2, RC.len _ _ h1]
    | succ i => exact k8 i y' x' (by simpa using hy) (by simpa using hx)

theorem op_buildSliceT (hT : TabOK P T) (hZ : ZOK P Z) {o : Oper} {t : TypeId} {len : Nat} {parts : Array (Nat × Operand)} (ho : o.op = .buildSlice t len parts) (s : Sim X B W0 ⟨ts, H⟩ a w pl) {K : LV → List Blk → Prop}
    (h : buildSliceT T Z H t len (parts.toList.map (·.1)) (parts.toList.map fun p => ev ts p.2) K) : OpRes P o a w X B W0 ts H pl K := by
  unfold buildSliceT at h
  split at h
  rotate_left
  · exact h.elim
  rename_i e sz by' hi
  obtain ⟨d, hd, hd2, _⟩ := (hT _ _ hi).und
  obtain rfl := kind_slice hd2
  split at h
  rotate_left
  · exact h.elim
  rename_i ei hei
  obtain ⟨inf, hinf, hsz, hby⟩ := (hT e ei hei).info
  split at h
  rotate_left
  · exact h.elim
  rename_i z hz
  obtain ⟨inf', zv, i1, i2, i3⟩ := hZ e z hz
  rw [hinf] at i1
  cases i1
  split at h
  rotate_left
  · exact h.elim
  rename_i hb
  simp only [Bool.and_eq_true, Nat.beq_eq, Nat.blt_eq, Nat.ble_eq] at hb
  obtain ⟨⟨⟨⟨⟨hzz, hpos⟩, hlen⟩, hseq⟩, hlit⟩, hsmall⟩ := hb
  have hlit := litS_all hlit
  generalize hxs : (parts.toList.map fun p => ev ts p.2) = xs at h hlen hlit
  let vs : List Value := parts.toList.map fun p => a.eval p.2
  have hvl : xs.length = vs.length := by rw [← hxs]; simp [vs]
  have hrt : ∀ (i : Nat) x v, xs[i]? = some x → vs[i]? = some v → RC (ctx X H pl w) x v.cells.toList ∧ v.cells.size = ei.size := by
    intro i x v hx hv
    rw [← hxs, List.getElem?_map] at hx
    simp only [vs] at hv
    rw [List.getElem?_map] at hv
    cases hp : parts.toList[i]? with
    | none => rw [hp] at hx; cases hx
    | some p =>
      rw [hp] at hx hv
      simp only [Option.map_some, Option.some.injEq] at hx hv
      have hm : x ∈ xs := by rw [← hxs]; exact List.mem_map.2 ⟨p, List.mem_of_getElem? hp, hx⟩
      obtain ⟨k1, k3⟩ := hlit x hm
      have hc := RT_cells (ev_sound s p.2) (by rw [show ev (St.mk ts H).tmps p.2 = x from hx]; exact k1)
      rw [hv, show ev (St.mk ts H).tmps p.2 = x from hx] at hc
      refine ⟨hc, ?_⟩
      rw [← Array.length_toList, RC.len _ _ hc, k3]
  have hsizes : ∀ v ∈ vs, v.cells.size = ei.size := by
    intro v hv
    obtain ⟨i, hi', rfl⟩ := List.getElem_of_mem hv
    exact (hrt i (xs[i]'(by omega)) _ (List.getElem?_eq_getElem (by omega)) (List.getElem?_eq_getElem hi')).2
  have hrcs : RCs (ctx X H pl w) xs (vs.flatMap fun v => v.cells.toList) := RCs_flatMap xs vs hvl fun i x v hx hv => (hrt i x v hx hv).1
  have hpz : (parts.map fun (i, x) => (i, a.eval x)).toList = (vs.zipIdx 0).map fun x => (x.2, x.1) := by
    rw [Array.toList_map]
    have := parts_zip a.eval 0 parts.toList hseq
    simpa [vs] using this
  have hlen' : len = vs.length := by omega
  have hr : (Instr.buildSlice t len (parts.map fun (i, x) => (i, a.eval x))).run P w = .ok (.slice (some ⟨w.heap.size, 0, none⟩) len len) (w.alloc (.cells (vs.flatMap fun v => v.cells.toList).toArray e)) := by
    by_cases h0 : len = 0
    · have hv0 : vs = [] := List.eq_nil_of_length_eq_zero (by omega)
      have hp0 : (parts.map fun (i, x) => (i, a.eval x)).toList = [] := by rw [hpz, hv0]; rfl
      rw [hv0]
      simp only [Instr.buildSlice, hp0]
      simp [h0, run_underlying hd, sizeOf, typeInfo, hinf, Instr.fill, newRow, show (Array.range 0) = #[] from rfl]
    · refine run_buildSlice w t e len _ _ inf zv hd hinf i2 (by rw [hsz]; omega) (by rw [hsz]; exact Nat.ne_of_gt (Nat.mul_pos (by omega) hpos)) ?_
      rw [hsz, hpz]
      exact fill_whole hpos vs _ hsizes (by simp [hlen'])
  have hcs : (vs.flatMap fun v => v.cells.toList).toArray.size = len * ei.size := by
    have := RCs.len _ _ hrcs
    rw [sizes_uniform xs (fun x hx => (hlit x hx).2)] at this
    simpa [hlen] using this
  have hml : len ≤ maxLen := by
    have : len ≤ len * ei.size := Nat.le_mul_of_pos_right _ hpos
    unfold maxLen; omega
  obtain ⟨ys, H0, bs, h, hrr, ok, hyl, hys⟩ := absKs_sizes s.good xs H _ _ [] AbsOK.refl hrcs h
  simp only [List.nil_append] at ok
  rw [appK_eq] at h
  have hrow := World.ownsRow_lit (e := e) w (vs.flatMap fun v => v.cells.toList).toArray len (s.good.base'.1) hml hcs
  have hyk : ∀ y ∈ ys, y.size = ei.size := fun y hy => by
    obtain ⟨i, hi', rfl⟩ := List.getElem_of_mem hy
    have hx : xs[i]? = some (xs[i]'(by omega)) := List.getElem?_eq_getElem (by omega)
    rw [hys i _ _ (List.getElem?_eq_getElem hi') hx]
    exact (hlit _ (List.mem_of_getElem? hx)).2
  have hb := below_alloc w (.cells (vs.flatMap fun v => v.cells.toList).toArray e)
  rw [hlen, ← hyl] at hrow
  obtain ⟨pl', k1, k2, k3⟩ := sim_append (t := true) (F := bs) (H1 := H0) (v := .slice none 0 0) (k := ei.size) (zs := ys) s ok.len ok.sub
    (fun i b c hi lv hc => ⟨by simp [Value.ownBlock], (ok.apart s.good hi lv).2 c hc⟩)
    (fun g hg => by simp [Value.ownBlock] at hg)
    (fun c hc => by obtain ⟨id, blk, q1, q2, q3, _⟩ := ok.src c hc; exact ⟨⟨id, blk, q1, q2, q3⟩, by simp [Value.ownBlock]⟩) ok.nd
    ⟨hb.os, hb.tape, hb.output, hb.size, fun k hk _ => hb.block k hk⟩ (by simpa using hrow) (.inr rfl) hrr hyk hpos
  unfold OpRes
  have hr' : (execOp a.eval o).run P w = .ok (.value (.slice (some ⟨w.heap.size, 0, none⟩) ys.length ys.length)) (w.alloc (.cells (vs.flatMap fun v => v.cells.toList).toArray e)) := by
    simp only [execOp, ho]
    rw [hyl, ← hlen]
    simp only [Sem.run_bind, hr, Result.andThen_ok, Sem.run_pure]
  rw [hr']
  have e1 : LV.hs H0.length ys.length = LV.hs H.length len := by rw [ok.len, hyl, hlen]
  rw [e1] at k2
  exact ⟨_, _, pl', h, k1, k2, k3⟩

end

/-! ### Regions -/

def loadF (E : Env) (ts : List LV) (H : List Blk) (t : TypeId) (x : Operand) (K : LV → List Blk → Prop) : Prop :=
  match ev ts x with
  | .hp id n (f :: q) => match H[id]? with
    | some (.row true _ _ _) => loadT E.T H t (.hp id n (f :: q)) K
    | some (.opn _ _ _ _ _) => loadO E.T H t (.hp id n (f :: q)) K
    | _ => loadE E.T H t (.hp id n (f :: q)) fun v => K v H
  | p => loadE E.T H t p fun v => K v H

def storeF (E : Env) (ts : List LV) (H : List Blk) (t : TypeId) (p x : Operand) (K : LV → List Blk → Prop) : Prop :=
  match ev ts p with
  | .hp id n (f :: q) => match H[id]? with
    | some (.row true _ _ _) => storeT E.T H t (.hp id n (f :: q)) (ev ts x) fun H' => K .undef H'
    | some (.row false _ _ _) => (match isPure (ev ts x) with
      | true => storeE E.T H t (.hp id n (f :: q)) (ev ts x) fun id b => setHK H id b fun H' => K .undef H'
      | false => storeT E.T H t (.hp id n (f :: q)) (ev ts x) fun H' => K .undef H')
    | some (.opn _ _ _ _ _) => storeO E.T H t (.hp id n (f :: q)) (ev ts x) fun H' => K .undef H'
    | _ => storeE E.T H t (.hp id n (f :: q)) (ev ts x) fun id b => setHK H id b fun H' => K .undef H'
  | u => storeE E.T H t u (ev ts x) fun id b => setHK H id b fun H' => K .undef H'

def pureAll : List LV → Bool
  | [] => true
  | x :: xs => match isPure x with | true => pureAll xs | false => false

def indexAddrF (E : Env) (ts : List LV) (H : List Blk) (t : TypeId) (x ix : Operand) (K : LV → List Blk → Prop) : Prop :=
  match ev ts x with
  | .hs id n => match H[id]? with
    | some (.opn _ _ _ _ _) => indexAddrO E.T H t (.hs id n) (ev ts ix) fun v => K v H
    | _ => indexAddrW E.T H t (.hs id n) (ev ts ix) fun v => K v H
  | p => indexAddrW E.T H t p (ev ts ix) fun v => K v H

/-- What is open is closed; where its row is given up, the place reads as anything. -/
def closeG (H : List Blk) (id : Nat) (K : List Blk → Prop) : Prop := match H[id]? with
  | some (.opn e k g j m) => (match H[j]? with
    | some .dead => setHK H id (.row true e k (g .undef)) fun H2 => K H2
    | _ => closeK H id K)
  | _ => False
theorem closeG_sound {X : Nat → Prop} {B : Nat} {W0 : Orig} {ts : List LV} {H : List Blk} {a : Act} {pl : Nat → PV} {w : World} (s : Sim X B W0 ⟨ts, H⟩ a w pl) {id : Nat} {K : List Blk → Prop} (h : closeG H id K) : ∃ H2 pl', K H2 ∧ Sim X B W0 ⟨ts, H2⟩ a w pl' ∧ (ctx X H pl w).Le (ctx X H2 pl' w) := by
  unfold closeG at h
  split at h
  · rename_i e k g j m hi
    split at h
    · rw [setHK_eq] at h
      obtain ⟨pl1, s1, hle⟩ := sim_closeU s hi
      exact ⟨_, pl1, h, s1, hle⟩
    · exact closeK_sound s h
  · exact h.elim

/-- A new variable, as a tree of one element. -/
def allocTW (Z : ZTab) (H : List Blk) (t : TypeId) (K : LV → List Blk → Prop) : Prop := match Z t with
  | some z => match Nat.blt 0 z.size with
    | true => appK H (.row true t z.size [z]) fun H' => K (.hp H.length 1 [0]) H'
    | false => False
  | none => False
theorem sim_newTree {X : Nat → Prop} {B : Nat} {W0 : Orig} {ts : List LV} {H : List Blk} {a : Act} {pl : Nat → PV} {w : World} (s : Sim X B W0 ⟨ts, H⟩ a w pl) {x : LV} {cs : Array Value} (t : TypeId) (hx : RC (ctx X H pl w).pure x cs.toList) (h0 : 0 < x.size) :
    ∃ pl', Sim X B W0 ⟨ts, H ++ [.row true t x.size [x]]⟩ a (w.alloc (.cells cs t)) pl' ∧ RT (ctx X (H ++ [.row true t x.size [x]]) pl' (w.alloc (.cells cs t))) (.hp H.length 1 [0]) (.pointer (some ⟨w.heap.size, 0, none⟩)) ∧ (ctx X H pl w).Le (ctx X (H ++ [.row true t x.size [x]]) pl' (w.alloc (.cells cs t))) := by
  have hb := below_alloc w (.cells cs t)
  have hu : ∀ b ∈ (Blk.row true t x.size [x]).feet ⟨.slice (some ⟨w.heap.size, 0, none⟩) 1 1, []⟩, w.heap.size ≤ b := fun b hb => by
    simp only [Blk.feet, List.append_nil] at hb
    obtain ⟨_, hb⟩ := mem_feet.1 hb
    rw [← hb]; exact Nat.le_refl _
  have hle := ctx_push s.good hb (u := ⟨.slice (some ⟨w.heap.size, 0, none⟩) 1 1, []⟩) (blk := .row true t x.size [x]) hu
  have hlen : cs.size = 1 * x.size := by have := RC.len _ _ hx; rw [Nat.one_mul]; simpa using this
  refine ⟨_, Sim.push s hb hu (by simp only [Blk.feet, List.append_nil]; exact feet_nodup _) ⟨cs.toList, World.ownsRow_lit (e := t) w cs 1 (s.good.base'.1) (by unfold maxLen; omega) hlen, ?_, by simp, h0⟩, ?_, hle⟩
  · show RRcs _ _ B [x] cs.toList []
    simp only [RRcs]
    exact ⟨cs.toList, [], [], [], by simp, rfl, RRc_of _ _ (RC.mono hle.pure _ _ hx), rfl, rfl⟩
  · simp only [RT, RT1, RC]
    refine ⟨_, rfl, by simp, .inl ⟨_, rfl⟩, ?_, ?_, ?_⟩
    · intro c o hc ho; rw [push_new] at hc; cases hc
    · intro b xs o hc hr hn ho
      rw [push_new] at hc
      cases hc
      obtain rfl : [x] = xs := hr
      have : o = 0 := by
        have e0 : offP x [] = some 0 := by cases x <;> rfl
        simp only [offP, List.getElem?_cons_zero, e0, List.take_zero, LV.sizes, Option.map_some, Option.some.injEq] at ho
        omega
      subst this
      rw [upd_same]
      rfl
    · intro b hc hwh; rw [push_new] at hc; cases hc; exact hwh.elim
theorem op_allocT {P : Program} {X : Nat → Prop} {B : Nat} {W0 : Orig} {ts : List LV} {H : List Blk} {a : Act} {pl : Nat → PV} {w : World} {Z : ZTab} (hZ : ZOK P Z) {o : Oper} {t : TypeId} (ho : o.op = .alloc t) (s : Sim X B W0 ⟨ts, H⟩ a w pl) {K : LV → List Blk → Prop}
    (h : allocTW Z H t K) : OpRes P o a w X B W0 ts H pl K := by
  unfold allocTW at h
  split at h
  · rename_i z hz
    split at h
    · rename_i h0
      rw [appK_eq] at h
      obtain ⟨inf, zv, h1, h2, h3⟩ := hZ t z hz
      obtain ⟨c1, e, hc⟩ := litIn_RC (ρ := (ctx X H pl w).pure) z _ _ h3
      rw [List.append_nil] at e
      subst e
      obtain ⟨pl', h4, h5, hl⟩ := sim_newTree s t hc (by simpa using h0)
      unfold OpRes
      have hr : (execOp a.eval o).run P w = .ok (.value (.pointer (some ⟨w.heap.size, 0, none⟩))) (w.alloc (.cells zv.cells t)) := by
        simp [execOp, ho, Instr.alloc, zeroValue, typeInfo, h1, h2, newVar, newRow, newObj, Sem.run]
      rw [hr]
      exact ⟨_, _, pl', h, h4, h5, hl⟩
    · exact h.elim
  · exact h.elim

/-- What is open is closed first. -/
def fieldAddrF (E : Env) (ts : List LV) (H : List Blk) (t : TypeId) (x : Operand) (f : Nat) (K : LV → List Blk → Prop) : Prop :=
  match ev ts x with
  | .hp id n (g :: q) => match H[id]? with
    | some (.opn _ _ _ _ _) => closeG H id fun H2 => fieldAddrE E.T H2 t (.hp id n (g :: q)) f fun v => K v H2
    | _ => fieldAddrE E.T H t (.hp id n (g :: q)) f fun v => K v H
  | p => fieldAddrE E.T H t p f fun v => K v H

def sliceF (E : Env) (ts : List LV) (H : List Blk) (t : TypeId) (x : Operand) (lo hi : Option Operand) (K : LV → List Blk → Prop) : Prop :=
  match ev ts x with
  | .hs id n => sliceOW E.T H t id n (lo.map (ev ts)) (hi.map (ev ts)) K
  | y => sliceW E.T t y (lo.map (ev ts)) (hi.map (ev ts)) fun v => K v H

/-- Is a slice nil? An empty one may be. -/
def nilEqF (E : Env) (o : Oper) (ts : List LV) (H : List Blk) (t : TypeId) (x y : Operand) (K : LV → List Blk → Prop) : Prop :=
  match ev ts x, ev ts y with
  | .sl xs, .nil => (match E.T t with
    | some ⟨.slice _, _, _⟩ => (xs = [] → K (.bool true) H) ∧ K (.bool false) H
    | _ => False)
  | _, _ => opW E o ts H K
theorem op_nilEq {E : Env} (hE : EnvOK E) {X : Nat → Prop} {B : Nat} {W0 : Orig} {ts : List LV} {H : List Blk} {a : Act} {pl : Nat → PV} {w : World} (s : Sim X B W0 ⟨ts, H⟩ a w pl) {o : Oper} {t yt : TypeId} {x y : Operand} (e : o.op = .binOp .eql t x y yt) {K : LV → List Blk → Prop}
    (h : nilEqF E o ts H t x y K) : OpResS E.P o a w X B W0 ts H pl K := by
  unfold nilEqF at h
  split at h
  · rename_i xs ex ey
    have hx := ev_sound s x
    have hy := ev_sound s y
    have hx0 : ev (St.mk ts H).tmps x = ev ts x := rfl
    have hy0 : ev (St.mk ts H).tmps y = ev ts y := rfl
    rw [hx0, ex] at hx
    rw [hy0, ey] at hy
    split at h
    · rename_i e' sz by' hi
      obtain ⟨d, hd, hd2, _⟩ := (hE.t t _ hi).und
      obtain rfl := kind_slice hd2
      simp [RT, RT1, RC] at hy
      simp only [RT, RT1, RC] at hx
      obtain ⟨a', cap, h1, h2, h3, h4⟩ := hx
      simp at h1
      have hr : (execOp a.eval o).run E.P w = .ok (.value (.bool a'.isNone)) w := by
        simp only [execOp, e, h1, hy, eqGuard, binOp]
        have he : (Op.equal t (.slice a' xs.length cap) (.slice none 0 0)).run E.P w = .ok a'.isNone w := by
          show (Op.equalIn (9999 + 1) t _ _).run E.P w = _
          rw [Op.equalIn.eq_def]
          cases a' <;> simp [run_underlying hd]
        simp [he]
      cases a' with
      | none =>
        have : xs = [] := by
          rcases h4 with h4 | ⟨ad, es, k, h5, _⟩
          · exact h4
          · cases h5
        exact OpResS.pure s hr (h.1 this) (RT_mk_bool _ _)
      | some ad => exact OpResS.pure s hr h.2 (RT_mk_bool _ _)
    · exact h.elim
  · simp only [opW, e] at h
    exact op_binC hE.t hE.c e s h

/-- Parts are told before they are put together. -/
def buildF (E : Env) (ts : List LV) (H : List Blk) (t : TypeId) (parts : List (Nat × Operand)) (K : LV → List Blk → Prop) : Prop :=
  evsK ts (parts.map (·.2)) fun xs => buildW E.T E.Z t ((parts.map (·.1)).zip xs) fun v => K v H
theorem buildF_eq {E : Env} {ts : List LV} {H : List Blk} {t : TypeId} {parts : List (Nat × Operand)} {K : LV → List Blk → Prop} :
    buildF E ts H t parts K = buildW E.T E.Z t (parts.map fun p => (p.1, ev ts p.2)) fun v => K v H := by
  unfold buildF
  rw [evsK_eq, List.map_map]
  congr 1
  induction parts with
  | nil => rfl
  | cons p ps ih => simp only [List.map_cons, List.zip_cons_cons, ih]; rfl

/-- An operation in a region whose order is that of the text. -/
def opF (E : Env) (o : Oper) (ts : List LV) (H : List Blk) (K : LV → List Blk → Prop) : Prop :=
  match o.op with
  | .load t x => loadF E ts H t x K
  | .indexAddr t x ix => indexAddrF E ts H t x ix K
  | .fieldAddr t x f => fieldAddrF E ts H t x f K
  | .store t p x => storeF E ts H t p x K
  | .buildSlice t len ⟨parts⟩ => evsK ts (parts.map (·.2)) fun xs => match pureAll xs with
    | true => buildSliceW E.T E.Z H t len (parts.map (·.1)) xs K
    | false => buildSliceT E.T E.Z H t len (parts.map (·.1)) xs K
  | .slice t x lo hi none => sliceF E ts H t x lo hi K
  | .makeInterface t x => ifcW E.T t (ev ts x) fun v => K v H
  | .build t ⟨parts⟩ => buildF E ts H t parts K
  | .box t x => match memB E.fb t with
    | true => boxF H (ev ts x) K
    | false => opW E o ts H K
  | .alloc t => match memB E.tb t with
    | true => allocTW E.Z H t K
    | false => opW E o ts H K
  | .call ⟨.builtin .append, ⟨[u, x]⟩, ⟨[t, t']⟩⟩ => match Nat.beq t t' with
    | true => opW E o ts H K
    | false => appendZW E.T E.Z H t t' (ev ts u) (ev ts x) K
  | .call ⟨.builtin .cap, ⟨[x]⟩, ⟨[t]⟩⟩ => capW E.T t (ev ts x) fun v => K v H
  | .binOp .eql t x y _ => nilEqF E o ts H t x y K
  | .makeMap t none => makeMapW E.mp H t K
  | .lookup t m x c => lookW E.mp E.Z H t (ev ts m) (ev ts x) c fun v => K v H
  | .mapUpdate t m x y => updW E.mp H t (ev ts m) (ev ts x) (ev ts y) fun H' => K .undef H'
  | .insert t m x y => updW E.mp H t (ev ts m) (ev ts x) (ev ts y) fun H' => K .undef H'
  | _ => opW E o ts H K

theorem op_loadF {E : Env} (hE : EnvOK E) {X : Nat → Prop} {B : Nat} {W0 : Orig} {ts : List LV} {H : List Blk} {a : Act} {pl : Nat → PV} {w : World} (s : Sim X B W0 ⟨ts, H⟩ a w pl) {o : Oper} {t : TypeId} {x : Operand} (e : o.op = .load t x) {K : LV → List Blk → Prop}
    (h : loadF E ts H t x K) : OpResS E.P o a w X B W0 ts H pl K := by
  have go : (loadE E.T H t (ev ts x) fun v => K v H) → OpResS E.P o a w X B W0 ts H pl K := fun h => op_load hE.t e s (loadE_W h)
  unfold loadF at h
  split at h
  · rename_i id n f q ep
    split at h
    · exact op_loadT hE.t e s (by rw [ep]; exact h)
    · exact op_loadO hE.t e s (by rw [ep]; exact h)
    · exact go (by rw [ep]; exact h)
  · exact go h

theorem op_indexAddrF {E : Env} (hE : EnvOK E) {X : Nat → Prop} {B : Nat} {W0 : Orig} {ts : List LV} {H : List Blk} {a : Act} {pl : Nat → PV} {w : World} (s : Sim X B W0 ⟨ts, H⟩ a w pl) {o : Oper} {t : TypeId} {x ix : Operand} (e : o.op = .indexAddr t x ix) {K : LV → List Blk → Prop}
    (h : indexAddrF E ts H t x ix K) : OpResS E.P o a w X B W0 ts H pl K := by
  unfold indexAddrF at h
  split at h
  · rename_i id n ep
    split at h
    · exact op_indexAddrO hE.t e s (by rw [ep]; exact h)
    · exact op_indexAddr hE.t e s (by rw [ep]; exact h)
  · exact op_indexAddr hE.t e s h

theorem closeK_ex {H : List Blk} {id : Nat} {K : List Blk → Prop} (h : closeK H id K) : ∃ H2, K H2 := by
  unfold closeK at h
  split at h
  · split at h
    · obtain ⟨_, h⟩ := h
      simp only [setHK_eq] at h
      exact ⟨_, h⟩
    · exact h.elim
  · exact h.elim
theorem closeG_ex {H : List Blk} {id : Nat} {K : List Blk → Prop} (h : closeG H id K) : ∃ H2, K H2 := by
  unfold closeG at h
  split at h
  · split at h
    · rw [setHK_eq] at h; exact ⟨_, h⟩
    · exact closeK_ex h
  · exact h.elim
theorem op_fieldAddrF {E : Env} (hE : EnvOK E) {X : Nat → Prop} {B : Nat} {W0 : Orig} {ts : List LV} {H : List Blk} {a : Act} {pl : Nat → PV} {w : World} (s : Sim X B W0 ⟨ts, H⟩ a w pl) {o : Oper} {t : TypeId} {x : Operand} {f : Nat} (e : o.op = .fieldAddr t x f) {K : LV → List Blk → Prop}
    (h : fieldAddrF E ts H t x f K) : OpResS E.P o a w X B W0 ts H pl K := by
  unfold fieldAddrF at h
  split at h
  · rename_i id n g q ep
    split at h
    · obtain ⟨H2, pl2, h3, s2, hle⟩ := closeG_sound s h
      obtain ⟨v, hr, x', H', pl', k1, k2, k3, k4⟩ := op_fieldAddr hE.t e s2 (K := K) (fieldAddrE_W (by rw [ep]; exact h3))
      exact ⟨v, hr, x', H', pl', k1, k2, k3, hle.trans k4⟩
    · exact op_fieldAddr hE.t e s (fieldAddrE_W (by rw [ep]; exact h))
  · exact op_fieldAddr hE.t e s (fieldAddrE_W h)
theorem fieldAddrF_ex {E : Env} {ts : List LV} {H : List Blk} {t : TypeId} {x : Operand} {f : Nat} {K : LV → List Blk → Prop} (h : fieldAddrF E ts H t x f K) : ∃ H2 p K2, fieldAddrW E.T H2 t p f K2 := by
  unfold fieldAddrF at h
  split at h
  · split at h
    · obtain ⟨H2, h⟩ := closeG_ex h
      exact ⟨_, _, _, fieldAddrE_W h⟩
    · exact ⟨_, _, _, fieldAddrE_W h⟩
  · exact ⟨_, _, _, fieldAddrE_W h⟩

theorem opF_sound {E : Env} (hE : EnvOK E) {X : Nat → Prop} {B : Nat} {W0 : Orig} {ts : List LV} {H : List Blk} {a : Act} {pl : Nat → PV} {w : World} (s : Sim X B W0 ⟨ts, H⟩ a w pl) {o : Oper} {K : LV → List Blk → Prop}
    (h : opF E o ts H K) : OpRes E.P o a w X B W0 ts H pl K := by
  unfold opF at h
  split at h
  · rename_i t x e
    exact (op_loadF hE s e h).res
  · rename_i t x ix e
    exact (op_indexAddrF hE s e h).res
  · rename_i t x f e
    exact (op_fieldAddrF hE s e h).res
  · rename_i t p x e
    have go : (storeE E.T H t (ev ts p) (ev ts x) fun id b => setHK H id b fun H' => K .undef H') → OpRes E.P o a w X B W0 ts H pl K := fun h => by
      simp only [setHK_eq] at h
      exact op_store hE.t e s (storeE_W (K := fun H' => K .undef H') h)
    unfold storeF at h
    split at h
    · rename_i id n f q ep
      split at h
      · exact op_storeT hE.t e s (by rw [ep]; exact h)
      · split at h
        · exact go (by rw [ep]; exact h)
        · exact op_storeT hE.t e s (by rw [ep]; exact h)
      · exact op_storeO hE.t e s (by rw [ep]; exact h)
      · exact go (by rw [ep]; exact h)
    · exact go h
  · rename_i t len parts e
    rw [evsK_eq, List.map_map] at h
    split at h
    · exact op_buildSlice hE.t hE.z e s h
    · exact op_buildSliceT hE.t hE.z e s h
  · rename_i t x lo hi e
    unfold sliceF at h
    split at h
    · rename_i id n ep
      exact (op_sliceO hE.t e s ep h).res
    · exact op_slice hE.t e s h
  · rename_i t x e; exact op_ifc hE.t e s h
  · rename_i t parts e
    rw [buildF_eq] at h
    exact opW_sound hE s (by simp only [opW, e]; exact h)
  · rename_i t x e
    split at h
    · exact op_boxF e s h
    · exact opW_sound hE s h
  · rename_i t e
    split at h
    · exact op_allocT hE.z e s h
    · exact opW_sound hE s h
  · rename_i u x t t' e
    split at h
    · exact opW_sound hE s h
    · exact op_appendZ hE.t hE.z e s h
  · rename_i x t e; exact op_cap hE.t e s h
  · rename_i t x y yt e; exact (op_nilEq hE s e h).res
  · rename_i t e; exact op_makeMap e s h
  · rename_i t m x c e; exact (op_lookup hE.mp hE.z e s h).res
  · rename_i t m x y e; exact op_mapUpdate hE.mp (.inl e) s h
  · rename_i t m x y e; exact op_mapUpdate hE.mp (.inr e) s h
  · exact opW_sound hE s h

/-- One operation under its guard, and then the rest. -/
def opsStepF (E : Env) (all : Array Oper) (o : Oper) (rest : List LV → List Blk → (List LV → List Blk → Prop) → Prop) (ts : List LV) (H : List Blk) (K : List LV → List Blk → Prop) : Prop :=
    match o.guard with
    | none => opF E o ts H fun x H' => putK o.dst ts x fun ts' => rest ts' H' K
    | some (j, want) =>
      match (all[j]?).bind (·.dst) with
      | none => False
      | some d => match ts.getD d .undef with
        | .bool b =>
          match want with
          | true => br b (opF E o ts H fun x H' => putK o.dst ts x fun ts' => rest ts' H' K) (putK o.dst ts (.tup []) fun ts' => rest ts' H K)
          | false => br b (putK o.dst ts (.tup []) fun ts' => rest ts' H K) (opF E o ts H fun x H' => putK o.dst ts x fun ts' => rest ts' H' K)
        | .tup [] => putK o.dst ts (.tup []) fun ts' => rest ts' H K
        | _ => False
/-- By the recursor itself, so that the kernel's steps and the elaborator's are the same. -/
def opsF (E : Env) (all : Array Oper) (l : List Oper) : List LV → List Blk → (List LV → List Blk → Prop) → Prop :=
  List.rec (motive := fun _ => List LV → List Blk → (List LV → List Blk → Prop) → Prop) opsNil (fun o _ ih => opsStepF E all o ih) l
theorem opsF_c {E : Env} {all : Array Oper} {o : Oper} {rest : List Oper} {ts : List LV} {H : List Blk} {K : List LV → List Blk → Prop} : opsF E all (o :: rest) ts H K = opsStepF E all o (opsF E all rest) ts H K := rfl

theorem opsF_sound {E : Env} (hE : EnvOK E) {X : Nat → Prop} {B : Nat} {W0 : Orig} {all : Array Oper} {K : List LV → List Blk → Prop} {Q : Exit → Act → World → Prop}
    (hK : ∀ ts H a w pl, K ts H → Sim X B W0 ⟨ts, H⟩ a w pl → Q .normal a w) : ∀ (l : List Oper) (ts : List LV) (H : List Blk) (a : Act) (w : World) (pl : Nat → PV),
    opsF E all l ts H K → Sim X B W0 ⟨ts, H⟩ a w pl → wpList E.P all Q l a w
  | [], ts, H, a, w, pl, h, s => hK ts H a w pl h s
  | o :: rest, ts, H, a, w, pl, h, s => by
    have go : opF E o ts H (fun x H' => putK o.dst ts x fun ts' => opsF E all rest ts' H' K) → o.wp E.P a w (wpList E.P all Q rest) Q := fun h => by
      refine wp_of_OpRes (opF_sound hE s h) fun x H' a' w' pl' hk hs => ?_
      rw [putK_eq] at hk
      exact opsF_sound hE hK rest _ H' a' w' pl' hk hs
    have skip : putK o.dst ts (.tup []) (fun ts' => opsF E all rest ts' H K) → wpList E.P all Q rest (a.put o.dst undef) w := fun h => by
      rw [putK_eq] at h
      exact opsF_sound hE hK rest _ H _ w pl h (s.putO o (x := .tup []) RT_none)
    rw [opsF_c] at h
    unfold opsStepF at h
    unfold wpList
    cases hg : o.guard with
    | none =>
      rw [hg] at h
      rw [if_pos (by simp [Region.wanted, hg])]
      exact .inl (go h)
    | some jw =>
      obtain ⟨j, want⟩ := jw
      rw [hg] at h
      simp only at h
      cases hd : (all[j]?).bind (·.dst) with
      | none => rw [hd] at h; exact h.elim
      | some d =>
        rw [hd] at h
        simp only at h
        cases hb : ts.getD d .undef <;> rw [hb] at h <;> try exact h.elim
        case tup vs =>
          cases vs with
          | cons _ _ => exact h.elim
          | nil =>
            have hw := wanted_none s hg hd hb
            rw [if_neg (by rw [hw]; decide)]
            exact skip h
        rename_i b
        have hv := ev_sound s (.tmp d)
        have e1 : ev ts (.tmp d) = .bool b := hb
        have e0 : ev (St.mk ts H).tmps (.tmp d) = .bool b := hb
        rw [e0] at hv
        have hv' : a.tmps.getD d undef = .bool b := RT_bool hv
        have hy : yielded all a.tmps j = some b := by
          have : a.tmps[d]? = some (.bool b) := by
            rw [Array.getD_eq_getD_getElem?] at hv'
            cases ht : a.tmps[d]? with
            | none => rw [ht] at hv'; simp [undef] at hv'
            | some v => rw [ht] at hv'; simp at hv'; rw [hv']
          simp [yielded, hd, this]
        have hw : Region.wanted o (yielded all a.tmps) = (b == want) := by simp [Region.wanted, hg, hy]
        rw [hw]
        cases want <;> simp only [br] at h <;> cases b <;> first
          | (rw [if_pos (by rfl)]; first | exact .inl (go (h.1 rfl)) | exact .inl (go (h.2 rfl)))
          | (rw [if_neg (by decide)]; first | exact skip (h.1 rfl) | exact skip (h.2 rfl))

/-! ### A region whose order is open, in which all but the last ones only read -/

def rdB (o : Oper) : Bool := match o.op with
  | .move _ | .assign _ | .pick _ _ _ | .extract _ _ | .unOp _ _ _ | .binOp _ _ _ _ _ | .load _ _ | .fieldAddr _ _ _ | .indexAddr _ _ _ | .index _ _ _ | .field _ _ _ | .slice _ _ _ _ _ | .build _ _ | .nilCheck _ | .makeInterface _ _ => true
  | .call ⟨.builtin .len, _, _⟩ => true
  | .call ⟨.builtin .max, _, _⟩ => true
  | .call ⟨.builtin .min, _, _⟩ => true
  | _ => false
def stillB (n : Nat) (ops : Array Oper) : Bool := Region.lexTailB .any ops n && (ops.toList.take n).all rdB

theorem opF_still {E : Env} (hE : EnvOK E) {X : Nat → Prop} {B : Nat} {W0 : Orig} {ts : List LV} {H : List Blk} {a : Act} {pl : Nat → PV} {w : World} (s : Sim X B W0 ⟨ts, H⟩ a w pl) {o : Oper} (hr : rdB o = true) {K : LV → List Blk → Prop}
    (h : opF E o ts H K) : OpResS E.P o a w X B W0 ts H pl K := by
  unfold rdB at hr
  unfold opF at h
  cases e : o.op <;> simp only [e] at hr h <;> try (cases hr; done)
  case load => exact op_loadF hE s e h
  case indexAddr => exact op_indexAddrF hE s e h
  case fieldAddr => exact op_fieldAddrF hE s e h
  case slice t x lo hi mx =>
    cases mx with
    | some _ => simp [opW, e] at h
    | none =>
      simp only at h
      unfold sliceF at h
      split at h
      · rename_i id n ep
        exact op_sliceO hE.t e s ep h
      · exact op_sliceS hE.t e s h
  case build t parts =>
    obtain ⟨ps⟩ := parts
    simp only [buildF_eq] at h
    obtain ⟨cells, x, h1, h2, h3⟩ := op_buildY hE.t hE.z e s h
    exact ⟨_, h1 w, x, H, pl, h2, s, h3, Ctx.Le.refl _⟩
  case nilCheck x =>
    simp only [opW, e] at h
    obtain ⟨v, y, h1, h2, h3⟩ := op_nilMH hE.mm e s h
    exact ⟨_, h1 w, y, H, pl, h2, s, h3, Ctx.Le.refl _⟩
  case makeInterface t x =>
    obtain ⟨v, y, h1, h2, h3⟩ := op_ifcH hE.t e s h
    exact ⟨_, h1 w, y, H, pl, h2, s, h3, Ctx.Le.refl _⟩
  case binOp op t x y yt =>
    cases op
    case eql => exact op_nilEq hE s e h
    all_goals (simp only [opW, e] at h; exact op_binC hE.t hE.c e s h)
  case call c =>
    obtain ⟨callee, args, ats⟩ := c
    cases callee <;> try (simp at hr; done)
    rename_i bi
    obtain ⟨al⟩ := args
    obtain ⟨tl⟩ := ats
    cases bi <;> try (simp at hr; done)
    case len =>
      match al, tl with
      | [x], [t] => simp only [opW, e] at h; exact op_len hE.t e s h
      | [], _ => simp [opW, e] at h
      | _ :: _ :: _, _ => simp [opW, e] at h
      | [_], [] => simp [opW, e] at h
      | [_], _ :: _ :: _ => simp [opW, e] at h
    case max =>
      match al with
      | [x, y] => simp only [opW, e] at h; exact op_maxS e s h
      | [] => simp [opW, e] at h
      | [_] => simp [opW, e] at h
      | _ :: _ :: _ :: _ => simp [opW, e] at h
    case min =>
      match al with
      | [x, y] => simp only [opW, e] at h; exact op_minS e s h
      | [] => simp [opW, e] at h
      | [_] => simp [opW, e] at h
      | _ :: _ :: _ :: _ => simp [opW, e] at h
  all_goals
    simp only [opW, e] at h
    first
    | exact op_move (.inl e) s h
    | exact op_move (.inr e) s h
    | exact op_pick e s h
    | exact op_extract e s h
    | exact op_un e s h
    | exact op_binC hE.t hE.c e s h
    | exact op_index hE.t e s h
    | exact op_field hE.t e s h

theorem opsF_still {E : Env} (hE : EnvOK E) {X : Nat → Prop} {B : Nat} {W0 : Orig} {all : Array Oper} {w : World} {K : List LV → List Blk → Prop} {Q : Act → Prop}
    (hK : ∀ ts H a pl, K ts H → Sim X B W0 ⟨ts, H⟩ a w pl → Q a) : ∀ (l : List Oper) (ts : List LV) (H : List Blk) (a : Act) (pl : Nat → PV),
    l.all rdB = true → opsF E all l ts H K → Sim X B W0 ⟨ts, H⟩ a w pl → wpStill E.P all w Q l a
  | [], ts, H, a, pl, _, h, s => hK ts H a pl h s
  | o :: rest, ts, H, a, pl, hall, h, s => by
    simp only [List.all_cons, Bool.and_eq_true] at hall
    have go : opF E o ts H (fun x H' => putK o.dst ts x fun ts' => opsF E all rest ts' H' K) → o.still E.P a w (wpStill E.P all w Q rest) := fun h => by
      obtain ⟨v, hr, x, H', pl', k1, k2, k3, _⟩ := opF_still hE s hall.1 h
      rw [putK_eq] at k1
      unfold Oper.still
      rw [hr, Oper.stillUpon_value]
      exact opsF_still hE hK rest _ H' _ pl' hall.2 k1 (k2.putO o k3)
    have skip : putK o.dst ts (.tup []) (fun ts' => opsF E all rest ts' H K) → wpStill E.P all w Q rest (a.put o.dst undef) := fun h => by
      rw [putK_eq] at h
      exact opsF_still hE hK rest _ H _ pl hall.2 h (s.putO o (x := .tup []) RT_none)
    rw [opsF_c] at h
    unfold opsStepF at h
    unfold wpStill
    cases hg : o.guard with
    | none =>
      rw [hg] at h
      rw [if_pos (by simp [Region.wanted, hg])]
      exact go h
    | some jw =>
      obtain ⟨j, want⟩ := jw
      rw [hg] at h
      simp only at h
      cases hd : (all[j]?).bind (·.dst) with
      | none => rw [hd] at h; exact h.elim
      | some d =>
        rw [hd] at h
        simp only at h
        cases hb : ts.getD d .undef <;> rw [hb] at h <;> try exact h.elim
        case tup vs =>
          cases vs with
          | cons _ _ => exact h.elim
          | nil =>
            have hw := wanted_none s hg hd hb
            rw [if_neg (by rw [hw]; decide)]
            exact skip h
        rename_i b
        have hv := ev_sound s (.tmp d)
        have e0 : ev (St.mk ts H).tmps (.tmp d) = .bool b := hb
        rw [e0] at hv
        have hv' : a.tmps.getD d undef = .bool b := RT_bool hv
        have hy : yielded all a.tmps j = some b := by
          have : a.tmps[d]? = some (.bool b) := by
            rw [Array.getD_eq_getD_getElem?] at hv'
            cases ht : a.tmps[d]? with
            | none => rw [ht] at hv'; simp [undef] at hv'
            | some v => rw [ht] at hv'; simp at hv'; rw [hv']
          simp [yielded, hd, this]
        have hw : Region.wanted o (yielded all a.tmps) = (b == want) := by simp [Region.wanted, hg, hy]
        rw [hw]
        cases want <;> simp only [br] at h <;> cases b <;> first
          | (rw [if_pos (by rfl)]; first | exact go (h.1 rfl) | exact go (h.2 rfl))
          | (rw [if_neg (by decide)]; first | exact skip (h.1 rfl) | exact skip (h.2 rfl))

theorem opsF_append {E : Env} {all : Array Oper} : ∀ (l1 l2 : List Oper) (ts : List LV) (H : List Blk) (K : List LV → List Blk → Prop), opsF E all (l1 ++ l2) ts H K = opsF E all l1 ts H fun ts' H' => opsF E all l2 ts' H' K
  | [], l2, ts, H, K => rfl
  | o :: l1, l2, ts, H, K => by
    have ih : opsF E all (l1 ++ l2) = fun ts H K => opsF E all l1 ts H fun ts' H' => opsF E all l2 ts' H' K := by
      funext ts H K; exact opsF_append l1 l2 ts H K
    rw [List.cons_append, opsF_c, opsF_c, ih]
    rfl

theorem still_tail {P : Program} {Q : Exit → Act → World → Prop} {a : Act} {w : World} {l : List Oper} (n : Nat) (hB : Region.lexTailB .any l.toArray n = true)
    (h : wpStill P l.toArray { w with drawn := w.drawn + 1 } (fun a' => wpList P l.toArray Q (l.drop n) a' { w with drawn := w.drawn + 1 }) (l.take n) a) : RgD P l.toArray Q a w := by
  simp only [Region.lexTailB, Bool.and_eq_true, decide_eq_true_eq] at hB
  obtain ⟨⟨⟨⟨hsel, hn⟩, hs⟩, hc⟩, hlex⟩ := hB
  have hn' : n < l.length := by simpa using hn
  have htl : (l.take n).length = n := by simp; omega
  have hdl : (l.drop n).length = l.toArray.size - n := by simp
  have inv0 : HeadInv .any l.toArray n (Array.replicate l.toArray.size false) :=
    ⟨by simp, fun j oj _ hl => (by rw [getD_replicate_false] at hl; cases hl), fun t _ ht => getD_in (by simpa using ht) (getD_replicate_false _ _)⟩
  have H := wpAnyL_lex (md := .any) (g := l.toArray.size - n) hsel hs hc hn (l.take n) 0 _ a (fun j hj => by
    have hj' : j < n := by rw [htl] at hj; exact hj
    simp [hj']) (by simpa using htl) inv0 (by rw [htl]; exact hlex) h
  unfold RgD
  have := wpAny_of_head (Q' := Q) (g := l.toArray.size - n) (fun listed a' hL => by
    have := wpAny_of_seq (md := .any) (Q' := Q) (l.drop n) n listed a' { w with drawn := w.drawn + 1 } (fun j => by simp [List.getElem?_drop]) (by rw [hdl]; exact hL.1) hL.2
    rwa [hdl] at this) _ _ _ H
  rw [htl, show n + (l.toArray.size - n) = l.toArray.size by omega] at this
  exact this

theorem still_sound {E : Env} (hE : EnvOK E) {X : Nat → Prop} {B : Nat} {W0 : Orig} {all : Array Oper} {n : Nat} (hd : stillB n all = true) {K : List LV → List Blk → Prop} {Q : Exit → Act → World → Prop}
    (hK : ∀ ts H a w pl, K ts H → Sim X B W0 ⟨ts, H⟩ a w pl → Q .normal a w) {ts : List LV} {H : List Blk} {a : Act} {w : World} {pl : Nat → PV}
    (h : opsF E all all.toList ts H K) (s : Sim X B W0 ⟨ts, H⟩ a w pl) : RgD E.P all Q a w := by
  simp only [stillB, Bool.and_eq_true] at hd
  have s := s.grow (w' := { w with drawn := w.drawn + 1 }) ⟨rfl, rfl, rfl, Nat.le_refl _, fun _ _ => rfl, Nat.le_succ _⟩
  rw [← List.take_append_drop n all.toList, opsF_append] at h
  have h1 := opsF_still hE (Q := fun a' => wpList E.P all Q (all.toList.drop n) a' { w with drawn := w.drawn + 1 })
    (fun ts H a pl k s => opsF_sound hE hK _ ts H a _ pl k s) _ ts H a pl hd.2 h s
  have := still_tail (P := E.P) (Q := Q) (a := a) (w := w) (l := all.toList) n (by simpa using hd.1) (by simpa using h1)
  simpa using this

end Go.Lg

