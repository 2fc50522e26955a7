/- Literals of slices and structs, function values, conversions of integers, checks for nil, ranges over strings. -/
import Derived.Test.YtbiagkccgijdlaaGreatALgU
import Derived.Laws.Tables
import Derived.Laws.BytesString
namespace Go.Lg
variable [GI]
set_option linter.unusedSectionVars false
set_option linter.unusedVariables false
set_option linter.unusedSimpArgs false
open Go.RowKit
open Go.Great (fill_whole foldl_set)
open Go.Lib (run_next_any_at run_next_end_at iterAt_heap)

section
variable {P : Program} {X : Nat → Prop} {B : Nat} {W0 : Orig} {ts : List LV} {H : List Blk} {a : Act} {pl : Nat → PV} {w : World} {T : Tab} {Z : ZTab}

/-- What is evaluated, the list written out. -/
def evsK (ts : List LV) : List Operand → (List LV → Prop) → Prop
  | [], K => K []
  | x :: xs, K => deepK (ev ts x) fun y => evsK ts xs fun ys => K (y :: ys)
theorem evsK_eq (ts : List LV) : ∀ (xs : List Operand) (K : List LV → Prop), evsK ts xs K = K (xs.map (ev ts))
  | [], _ => rfl
  | x :: xs, K => by simp only [evsK, deepK_eq, evsK_eq ts xs, List.map_cons]

/-- Laid into its place, the list written out. -/
def setK : List LV → Nat → LV → (List LV → Prop) → Prop
  | [], _, _, K => K []
  | _ :: ys, 0, x, K => K (x :: ys)
  | y :: ys, n + 1, x, K => setK ys n x fun r => K (y :: r)
theorem setK_eq : ∀ (ts : List LV) (d : Nat) (x : LV) (K : List LV → Prop), setK ts d x K = K (ts.set d x)
  | [], _, _, _ => rfl
  | _ :: _, 0, _, _ => rfl
  | y :: ys, n + 1, x, K => by simp only [setK, setK_eq ys n x, List.set_cons_succ]

def seqB : Nat → List Nat → Bool
  | _, [] => true
  | n, x :: xs => match Nat.beq x n with | true => seqB (n + 1) xs | false => false

def litB (size : Nat) : List LV → Bool
  | [] => true
  | x :: xs => okBox x && isPure x && Nat.beq x.size size && litB size xs

def buildSliceW (T : Tab) (Z : ZTab) (H : List Blk) (t : TypeId) (len : Nat) (idx : List Nat) (xs : List LV) (K : LV → List Blk → Prop) : Prop :=
  match T t with
  | some ⟨.slice e, _, _⟩ => match T e with
    | some ei => match Z e with
      | some z => match Nat.beq z.size ei.size && Nat.blt 0 ei.size && Nat.beq len xs.length && seqB 0 idx && litB ei.size xs && Nat.ble (len * ei.size) 16777216 with
        | true => appK H (.arr e ei.size xs) fun H' => K (.hs H.length len) H'
        | false => False
      | none => False
    | none => False
  | _ => False

theorem buildSliceW_push {t : TypeId} {len : Nat} {idx : List Nat} {xs : List LV} {K : LV → List Blk → Prop} (h : buildSliceW T Z H t len idx xs K) :
    ∃ y c, K y (H ++ [c]) ∧ ∀ K' : LV → List Blk → Prop, K' y (H ++ [c]) → buildSliceW T Z H t len idx xs K' := by
  unfold buildSliceW at h ⊢
  split at h
  · rename_i e sz by' hi
    try simp only [hi]
    cases hei : T e with
    | none => rw [hei] at h; exact h.elim
    | some ei =>
      rw [hei] at h
      simp only at h ⊢
      cases hz : Z e with
      | none => rw [hz] at h; exact h.elim
      | some z =>
        rw [hz] at h
        simp only at h ⊢
        split at h
        · rename_i hb
          rw [appK_eq] at h
          refine ⟨_, _, h, fun K' k => ?_⟩
          try simp only [hb]
          rw [appK_eq]; exact k
        · exact h.elim
  · exact h.elim

theorem litB_all {size : Nat} : ∀ {xs : List LV}, litB size xs = true → ∀ x ∈ xs, okBox x = true ∧ isPure x = true ∧ x.size = size
  | [], _, x, hx => by simp at hx
  | y :: ys, h, x, hx => by
    simp only [litB, Bool.and_eq_true, Nat.beq_eq] at h
    rcases List.mem_cons.1 hx with rfl | hx
    · exact ⟨h.1.1.1, h.1.1.2, h.1.2⟩
    · exact litB_all h.2 x hx

theorem parts_zip {α : Type} (f : Operand → α) : ∀ (n : Nat) (ps : List (Nat × Operand)), seqB n (ps.map (·.1)) = true →
    ps.map (fun p => (p.1, f p.2)) = ((ps.map fun p => f p.2).zipIdx n).map fun x => (x.2, x.1)
  | _, [], _ => rfl
  | n, (i, x) :: ps, h => by
    simp only [List.map_cons, seqB] at h
    split at h
    · rename_i hb
      have := Nat.eq_of_beq_eq_true hb
      subst this
      simp only [List.map_cons, List.zipIdx_cons]
      rw [parts_zip f (i + 1) ps h]
    · cases h

theorem RCs_lit {ρ : Ctx} : ∀ (xs : List LV) (vs : List Value), xs.length = vs.length → (∀ (i : Nat) x v, xs[i]? = some x → vs[i]? = some v → RC ρ x v.cells.toList) → RCs ρ xs (vs.flatMap fun v => v.cells.toList)
  | [], [], _, _ => by simp [RCs]
  | [], _ :: _, h, _ => by simp at h
  | _ :: _, [], h, _ => by simp at h
  | x :: xs, v :: vs, h, k => by
    simp only [List.flatMap_cons, RCs]
    exact ⟨_, _, rfl, k 0 x v rfl rfl, RCs_lit xs vs (by simpa using h) fun i y u hy hu => k (i + 1) y u (by simpa using hy) (by simpa using hu)⟩

theorem op_buildSlice (hT : TabOK P T) (hZ : ZOK P Z) {o : Oper} {t : TypeId} {len : Nat} {parts : Array (Nat × Operand)} (ho : o.op = .buildSlice t len parts) (s : Sim X B W0 ⟨ts, H⟩ a w pl) {K : LV → List Blk → Prop}
    (h : buildSliceW T Z H t len (parts.toList.map (·.1)) (parts.toList.map fun p => ev ts p.2) K) : OpRes P o a w X B W0 ts H pl K := by
  unfold buildSliceW at h
  split at h
  rotate_left
  · exact h.elim
  rename_i e sz by' hi
  obtain ⟨d, hd, hd2, _⟩ := (hT _ _ hi).und
  obtain rfl := kind_slice hd2
  split at h
  rotate_left
  · exact h.elim
  rename_i ei hei
  obtain ⟨inf, hinf, hsz, hby⟩ := (hT e ei hei).info
  split at h
  rotate_left
  · exact h.elim
  rename_i z hz
  obtain ⟨inf', zv, i1, i2, i3⟩ := hZ e z hz
  rw [hinf] at i1
  cases i1
  split at h
  rotate_left
  · exact h.elim
  rename_i hb
  rw [appK_eq] at h
  simp only [Bool.and_eq_true, Nat.beq_eq, Nat.blt_eq, Nat.ble_eq] at hb
  obtain ⟨⟨⟨⟨⟨hzz, hpos⟩, hlen⟩, hseq⟩, hlit⟩, hsmall⟩ := hb
  have hlit := litB_all hlit
  have hzs : zv.cells.size = ei.size := by
    obtain ⟨c1, ec, hc⟩ := litIn_RC (ρ := ctx X H pl w) z _ _ i3
    rw [List.append_nil] at ec
    have := RC.len _ _ hc
    rw [← ec, Array.length_toList] at this
    omega
  generalize hxs : (parts.toList.map fun p => ev ts p.2) = xs at h hlen hlit
  let vs : List Value := parts.toList.map fun p => a.eval p.2
  have hvl : xs.length = vs.length := by rw [← hxs]; simp [vs]
  have hrt : ∀ (i : Nat) x v, xs[i]? = some x → vs[i]? = some v → RC (ctx X H pl w) x v.cells.toList ∧ v.cells.size = ei.size := by
    intro i x v hx hv
    rw [← hxs, List.getElem?_map] at hx
    simp only [vs] at hv
    rw [List.getElem?_map] at hv
    cases hp : parts.toList[i]? with
    | none => rw [hp] at hx; cases hx
    | some p =>
      rw [hp] at hx hv
      simp only [Option.map_some, Option.some.injEq] at hx hv
      have hm : x ∈ xs := by rw [← hxs]; exact List.mem_map.2 ⟨p, List.mem_of_getElem? hp, hx⟩
      obtain ⟨k1, k2, k3⟩ := hlit x hm
      have hc := RT_cells (ev_sound s p.2) (by rw [show ev (St.mk ts H).tmps p.2 = x from hx]; exact k1)
      rw [hv, show ev (St.mk ts H).tmps p.2 = x from hx] at hc
      refine ⟨hc, ?_⟩
      rw [← Array.length_toList, RC.len _ _ hc, k3]
  have hsizes : ∀ v ∈ vs, v.cells.size = ei.size := by
    intro v hv
    obtain ⟨i, hi', rfl⟩ := List.getElem_of_mem hv
    exact (hrt i (xs[i]'(by omega)) _ (List.getElem?_eq_getElem (by omega)) (List.getElem?_eq_getElem hi')).2
  have hrcs : RCs (ctx X H pl w).pure xs (vs.flatMap fun v => v.cells.toList) := by
    refine RCs_lit xs vs hvl fun i x v hx hv => ?_
    have hm := List.mem_of_getElem? hx
    exact RC_pure (hrt i x v hx hv).1 (hlit x hm).2.1
  have hpz : (parts.map fun (i, x) => (i, a.eval x)).toList = (vs.zipIdx 0).map fun x => (x.2, x.1) := by
    rw [Array.toList_map]
    have := parts_zip a.eval 0 parts.toList hseq
    simpa [vs] using this
  have hlen' : len = vs.length := by omega
  have hr : (Instr.buildSlice t len (parts.map fun (i, x) => (i, a.eval x))).run P w = .ok (.slice (some ⟨w.heap.size, 0, none⟩) len len) (w.alloc (.cells (vs.flatMap fun v => v.cells.toList).toArray e)) := by
    by_cases h0 : len = 0
    · have hv0 : vs = [] := List.eq_nil_of_length_eq_zero (by omega)
      have hp0 : (parts.map fun (i, x) => (i, a.eval x)).toList = [] := by rw [hpz, hv0]; rfl
      rw [hv0]
      simp only [Instr.buildSlice, hp0]
      simp [h0, run_underlying hd, sizeOf, typeInfo, hinf, Instr.fill, newRow, show (Array.range 0) = #[] from rfl]
    · refine run_buildSlice w t e len _ _ inf zv hd hinf i2 (by rw [hsz]; omega) (by rw [hsz]; exact Nat.ne_of_gt (Nat.mul_pos (by omega) hpos)) ?_
      rw [hsz, hpz]
      exact fill_whole hpos vs _ hsizes (by simp [hlen'])
  have hcs : (vs.flatMap fun v => v.cells.toList).toArray.size = len * ei.size := by
    have := RCs.len _ _ hrcs
    rw [sizes_uniform xs (fun x hx => (hlit x hx).2.2)] at this
    simpa [hlen] using this
  have hml : len ≤ maxLen := by
    have : len ≤ len * ei.size := Nat.le_mul_of_pos_right _ hpos
    unfold maxLen; omega
  have hrow := World.ownsRow_lit (e := e) w (vs.flatMap fun v => v.cells.toList).toArray len (s.good.base'.1) hml hcs
  rw [hlen] at hrow hr h
  obtain ⟨pl', k1, k2, k3⟩ := sim_newArr s (below_alloc w _) (k := ei.size) (xs := xs) (by simpa using hrow) hrcs (fun x hx => (hlit x hx).2.2) hpos
  unfold OpRes
  have hr' : (execOp a.eval o).run P w = .ok (.value (.slice (some ⟨w.heap.size, 0, none⟩) xs.length xs.length)) (w.alloc (.cells (vs.flatMap fun v => v.cells.toList).toArray e)) := by
    simp only [execOp, ho]
    rw [hlen]
    simp only [Sem.run_bind, hr, Result.andThen_ok, Sem.run_pure]
  rw [hr']
  exact ⟨_, _, pl', h, k1, k2, k3⟩

/-! ### Structs -/

def setParts (T : Tab) (fts offs : List Nat) : List LV → List (Nat × LV) → (List LV → Prop) → Prop
  | zs, [], K => K zs
  | zs, (i, x) :: ps, K => match zs[i]?, fts[i]?, offs[i]? with
    | some y, some ft, some off => match okBox x && Nat.beq x.size y.size && Nat.beq (LV.sizes (zs.take i)) off with
      | true => match T ft with
        | some fi => match Nat.beq fi.size x.size with
          | true => setK zs i x fun zs' => setParts T fts offs zs' ps K
          | false => False
        | none => False
      | false => False
    | _, _, _ => False

def knownB (T : Tab) : List Nat → Bool
  | [] => true
  | t :: r => match T t with | some _ => knownB T r | none => false

def buildW (T : Tab) (Z : ZTab) (t : TypeId) (parts : List (Nat × LV)) (K : LV → Prop) : Prop :=
  match T t with
  | some ⟨.struct fts offs, _, _⟩ => match Z t with
    | some (.st zs) => match knownB T fts with
      | true => setParts T fts offs zs parts fun fs => K (.st fs)
      | false => False
    | _ => False
  | _ => False

theorem setParts_ex {fts offs : List Nat} : ∀ {ps : List (Nat × LV)} {zs : List LV} {K : List LV → Prop}, setParts T fts offs zs ps K → ∃ fs, K fs ∧ ∀ K' : List LV → Prop, K' fs → setParts T fts offs zs ps K'
  | [], zs, K, h => ⟨zs, h, fun _ h => h⟩
  | (i, x) :: ps, zs, K, h => by
    unfold setParts at h ⊢
    split at h
    · rename_i y ft off h1 h2 h3
      split at h
      · rename_i hb
        split at h
        · rename_i fi hfi
          split at h
          · rename_i hb2
            rw [setK_eq] at h
            obtain ⟨fs, k1, k2⟩ := setParts_ex h
            refine ⟨fs, k1, fun K' k => ?_⟩
            try simp only [hb, hfi, hb2]
            rw [setK_eq]
            exact k2 K' k
          · exact h.elim
        · exact h.elim
      · exact h.elim
    · exact h.elim

theorem buildW_ex {t : TypeId} {parts : List (Nat × LV)} {K : LV → Prop} (h : buildW T Z t parts K) : ∃ y, K y ∧ ∀ K' : LV → Prop, K' y → buildW T Z t parts K' := by
  unfold buildW at h ⊢
  split at h
  · rename_i fts offs sz by' hi
    split at h
    · rename_i zs hz
      split at h
      · rename_i hb
        obtain ⟨fs, k1, k2⟩ := setParts_ex h
        refine ⟨_, k1, fun K' k => ?_⟩
        try simp only [hi, hz, hb]
        exact k2 _ k
      · exact h.elim
    · exact h.elim
  · exact h.elim

theorem fill_parts {ρ : Ctx} {fts offs : List Nat} {places : Array (Nat × Nat)} (hp : ∀ (i : Nat) ft off fi, fts[i]? = some ft → offs[i]? = some off → T ft = some fi → places[i]? = some (off, fi.size)) :
    ∀ (ps : List (Nat × LV)) (vs : List (Nat × Value)) (zs : List LV) (cells : Array Value) (K : List LV → Prop), ps.length = vs.length →
      (∀ (j : Nat) i x i' v, ps[j]? = some (i, x) → vs[j]? = some (i', v) → i = i' ∧ (okBox x = true → RC ρ x v.cells.toList)) → RCs ρ zs cells.toList → setParts T fts offs zs ps K →
      ∃ cells' fs, Instr.fill (places[·]?) cells vs = some cells' ∧ RCs ρ fs cells'.toList ∧ K fs
  | [], [], zs, cells, K, _, _, hz, h => ⟨cells, zs, rfl, hz, h⟩
  | [], _ :: _, _, _, _, h, _, _, _ => by simp at h
  | _ :: _, [], _, _, _, h, _, _, _ => by simp at h
  | (i, x) :: ps, (i', v) :: vs, zs, cells, K, hl, hk, hz, h => by
    obtain ⟨rfl, hx⟩ := hk 0 i x i' v rfl rfl
    unfold setParts at h
    split at h
    rotate_left
    · exact h.elim
    rename_i y ft off h1 h2 h3
    split at h
    rotate_left
    · exact h.elim
    rename_i hb
    simp only [Bool.and_eq_true, Nat.beq_eq] at hb
    obtain ⟨⟨b1, b2⟩, b3⟩ := hb
    split at h
    rotate_left
    · exact h.elim
    rename_i fi hfi
    split at h
    rotate_left
    · exact h.elim
    rename_i hb2
    have hb2 := Nat.eq_of_beq_eq_true hb2
    rw [setK_eq] at h
    have hxc := hx b1
    have hvs : v.cells.size = fi.size := by rw [← Array.length_toList, RC.len _ _ hxc, hb2]
    obtain ⟨c1, d, c2, hc, m1, m2, m3, m4⟩ := RCs.get hz h1
    have hd : d.length = fi.size := by rw [RC.len _ _ m2, ← b2, hb2]
    have hoff : c1.length = off := by rw [m4, b3]
    have hcs : cells.size = c1.length + d.length + c2.length := by rw [← Array.length_toList, hc]; simp; omega
    have hset : ((v.cells.zipIdx.foldl (fun cs (c, j) => cs.setIfInBounds (off + j) c) cells)).toList = c1 ++ v.cells.toList ++ c2 := by
      have hf := foldl_set off v.cells.toList 0 cells
      have e1 : v.cells.zipIdx.foldl (fun cs (c, j) => cs.setIfInBounds (off + j) c) cells = (v.cells.toList.zipIdx 0).foldl (fun cs (x : Value × Nat) => cs.setIfInBounds (off + x.2) x.1) cells := by
        rw [← Array.foldl_toList, Array.toList_zipIdx]
      rw [e1]
      apply List.ext_getElem?
      intro k
      have := hf.2 k
      rw [← Array.getElem?_toList] at this
      rw [this]
      have hvl : v.cells.toList.length = fi.size := by simpa using hvs
      by_cases k1 : k < off
      · rw [if_neg (by omega), List.append_assoc, List.getElem?_append_left (by omega), ← Array.getElem?_toList, hc, List.append_assoc, List.getElem?_append_left (by omega)]
      · by_cases k2 : k < off + fi.size
        · rw [if_pos ⟨by omega, by omega, by omega⟩, List.append_assoc, List.getElem?_append_right (by omega), List.getElem?_append_left (by omega)]
          congr 1; omega
        · rw [if_neg (by omega), ← Array.getElem?_toList, hc, List.getElem?_append_right (by simp; omega), List.getElem?_append_right (by simp; omega)]
          congr 1; simp; omega
    have hz' : RCs ρ (zs.set i x) (v.cells.zipIdx.foldl (fun cs (c, j) => cs.setIfInBounds (off + j) c) cells).toList := by
      rw [hset]
      exact RCs_set zs i y x c1 c2 _ h1 m1 m3 hxc
    obtain ⟨cells', fs, r1, r2, r3⟩ := fill_parts hp ps vs _ _ K (by simpa using hl) (fun j i x i' v hj hj' => hk (j + 1) i x i' v (by simpa using hj) (by simpa using hj')) hz' h
    refine ⟨cells', fs, ?_, r2, r3⟩
    unfold Instr.fill
    have hpl : places[i]? = some (off, fi.size) := hp i ft off fi h2 h3 hfi
    simp only [hpl]
    rw [if_neg (by simp [hvs]; omega)]
    exact r1

theorem places_of (hT : TabOK P T) : ∀ (fs : List Field), knownB T (fs.map (·.type)) = true → ∃ places, fs.mapM (fun f => (P.info? f.type).map fun i => (f.offset, i.size)) = some places ∧
    ∀ (i : Nat) ft off fi, (fs.map (·.type))[i]? = some ft → (fs.map (·.offset))[i]? = some off → T ft = some fi → places[i]? = some (off, fi.size)
  | [], _ => ⟨[], rfl, fun i ft off fi h => by simp at h⟩
  | f :: fs, h => by
    simp only [List.map_cons, knownB] at h
    split at h
    · rename_i i hi
      obtain ⟨places, h1, h2⟩ := places_of hT fs h
      obtain ⟨inf, hinf, hsz, _⟩ := (hT _ _ hi).info
      refine ⟨(f.offset, inf.size) :: places, by simp [List.mapM_cons, hinf, h1], fun j ft off fi k1 k2 k3 => ?_⟩
      cases j with
      | zero =>
        simp at k1 k2
        subst k1; subst k2
        rw [hi] at k3
        cases k3
        simp [hsz]
      | succ j => simpa using h2 j ft off fi (by simpa using k1) (by simpa using k2) k3
    · cases h

theorem op_buildY (hT : TabOK P T) (hZ : ZOK P Z) {o : Oper} {t : TypeId} {parts : Array (Nat × Operand)} (ho : o.op = .build t parts) (s : Sim X B W0 ⟨ts, H⟩ a w pl) {K : LV → List Blk → Prop}
    (h : buildW T Z t (parts.toList.map fun p => (p.1, ev ts p.2)) fun v => K v H) : ∃ cells x, (∀ w', (execOp a.eval o).run P w' = .ok (.value (.agg cells)) w') ∧ K x H ∧ RT (ctx X H pl w) x (.agg cells) := by
  unfold buildW at h
  split at h
  rotate_left
  · exact h.elim
  rename_i fts offs sz by' hi
  obtain ⟨d, hd, hd2, _⟩ := (hT _ _ hi).und
  obtain ⟨fs', rfl, hfts, hoffs⟩ := kind_struct hd2
  split at h
  rotate_left
  · exact h.elim
  rename_i zs hz
  obtain ⟨inf, zv, i1, i2, i3⟩ := hZ t _ hz
  split at h
  rotate_left
  · exact h.elim
  rename_i hb
  rw [hfts] at hb
  obtain ⟨places, hp1, hp2⟩ := places_of hT fs'.toList hb
  rw [← hfts, ← hoffs] at hp2
  have hzc : RCs (ctx X H pl w) zs zv.cells.toList := by
    obtain ⟨c1, ec, hc⟩ := litIn_RC (ρ := ctx X H pl w) (.st zs) _ _ i3
    rw [List.append_nil] at ec
    rw [RC_st, ← ec] at hc
    exact hc
  obtain ⟨cells', gs, r1, r2, r3⟩ := fill_parts (places := places.toArray) (ρ := ctx X H pl w) (fun i ft off fi k1 k2 k3 => by simpa using hp2 i ft off fi k1 k2 k3)
    (parts.toList.map fun p => (p.1, ev ts p.2)) (parts.toList.map fun p => (p.1, a.eval p.2)) zs zv.cells _ (by simp) (fun j i x i' v hj hj' => by
      rw [List.getElem?_map] at hj hj'
      cases hq : parts.toList[j]? with
      | none => rw [hq] at hj; cases hj
      | some q =>
        rw [hq] at hj hj'
        simp only [Option.map_some, Option.some.injEq, Prod.mk.injEq] at hj hj'
        obtain ⟨rfl, rfl⟩ := hj
        obtain ⟨rfl, rfl⟩ := hj'
        exact ⟨rfl, fun ok => RT_cells (ev_sound s q.2) ok⟩) hzc h
  have hbuilt : P.built t (parts.map fun (i, x) => (i, a.eval x)).toList = some cells' := by
    simp only [Program.built, i1, hd, i2, hp1, Array.toList_map]
    exact r1
  refine ⟨cells', _, fun w' => ?_, r3, ⟨cells', rfl, r2⟩⟩
  simp only [execOp, ho, Sem.run_bind, run_build w' t _ cells' hbuilt, Result.andThen_ok, Sem.run_pure]

theorem op_build (hT : TabOK P T) (hZ : ZOK P Z) {o : Oper} {t : TypeId} {parts : Array (Nat × Operand)} (ho : o.op = .build t parts) (s : Sim X B W0 ⟨ts, H⟩ a w pl) {K : LV → List Blk → Prop}
    (h : buildW T Z t (parts.toList.map fun p => (p.1, ev ts p.2)) fun v => K v H) : OpRes P o a w X B W0 ts H pl K := by
  obtain ⟨cells, x, h1, h2, h3⟩ := op_buildY hT hZ ho s h
  exact OpRes.pure s (h1 w) h2 h3

/-! ### Function values, conversions, checks, strings' ranges -/

def capB : List LV → Bool
  | [] => true
  | x :: xs => (match x with | .st _ | .undef | .own _ _ _ | .tup _ => false | _ => true) && capB xs

theorem RCs_caps (s : Sim X B W0 ⟨ts, H⟩ a w pl) : ∀ (ops : List Operand), capB (ops.map (ev ts)) = true → RCs (ctx X H pl w) (ops.map (ev ts)) (ops.map a.eval)
  | [], _ => by simp [RCs]
  | o :: ops, h => by
    simp only [List.map_cons, capB, Bool.and_eq_true] at h
    simp only [List.map_cons, RCs]
    refine ⟨[a.eval o], ops.map a.eval, rfl, ?_, RCs_caps s ops h.2⟩
    have := ev_sound s o
    have e : ev (St.mk ts H).tmps o = ev ts o := rfl
    rw [e] at this
    have h1 := h.1
    generalize ev ts o = x at this h1
    cases x <;> first | (cases h1; done) | exact this

theorem op_makeFunc {o : Oper} {f : FuncId} {captured : Array Operand} (ho : o.op = .makeFunc (.func f) #[] captured) (s : Sim X B W0 ⟨ts, H⟩ a w pl) {K : LV → List Blk → Prop}
    (h : match capB (captured.toList.map (ev ts)) with | true => K (.clos f (captured.toList.map (ev ts))) H | false => False) : OpRes P o a w X B W0 ts H pl K := by
  split at h
  · rename_i hb
    refine OpRes.pure s (v := .func (.func f) #[] (captured.map a.eval)) (by simp [execOp, ho, Instr.makeFunc]) h ?_
    simp only [RT, RT1, RC]
    exact ⟨_, rfl, by rw [Array.toList_map]; exact RCs_caps s _ hb⟩
  · exact h.elim

def convW (T : Tab) (d : TypeId) (x : LV) (K : LV → Prop) : Prop :=
  match T d with
  | some ⟨.int k, _, _⟩ => match x with | .int _ n => K (.int k (k.wrap n)) | _ => False
  | _ => False
theorem convW_ex {d : TypeId} {x : LV} {K : LV → Prop} (h : convW T d x K) : ∃ y, K y ∧ ∀ K' : LV → Prop, K' y → convW T d x K' := by
  unfold convW at h ⊢
  split at h
  · rename_i k sz by' hi
    try simp only [hi]
    cases x <;> simp only at h ⊢ <;> try exact h.elim
    exact ⟨_, h, fun _ h => h⟩
  · exact h.elim

theorem op_conv (hT : TabOK P T) {o : Oper} {sT d : TypeId} {x : Operand} (ho : o.op = .convert sT d x) (hs : (P.underlying sT).isSome = true) (s : Sim X B W0 ⟨ts, H⟩ a w pl) {K : LV → List Blk → Prop}
    (h : convW T d (ev ts x) fun v => K v H) : OpRes P o a w X B W0 ts H pl K := by
  unfold convW at h
  split at h
  · rename_i k sz by' hi
    obtain ⟨dd, hd, hd2, _⟩ := (hT _ _ hi).und
    obtain rfl := kind_int hd2
    split at h
    · rename_i k' n e
      have hx := ev_sound s x
      rw [e] at hx
      have vx := RT_int hx
      obtain ⟨ds, hds⟩ := Option.isSome_iff_exists.1 hs
      refine OpRes.pure s (v := .int k (k.wrap n)) ?_ h (RT_mk_int _ _ _)
      simp [execOp, ho, vx, convert, run_underlying hds, run_underlying hd, Conv.intToInt]
    · exact h.elim
  · exact h.elim

/-- A slice of bytes as a string. -/
def bytesOf (ns : List Int) : ByteArray := ns.foldl (fun r n => r.push (UInt8.ofNat n.toNat)) ByteArray.empty
def convBW (T : Tab) (H : List Blk) (d : TypeId) (x : LV) (K : LV → Prop) : Prop :=
  match T d with
  | some ⟨.str, _, _⟩ => match x with
    | .hs id n => match H[id]? with
      | some (.arr _ _ xs) => n = xs.length ∧ ∃ ns : List Int, xs = ns.map (LV.int .u8) ∧ K (.str (bytesOf ns))
      | _ => False
    | .sl xs => ∃ ns : List Int, xs = ns.map (LV.int .u8) ∧ K (.str (bytesOf ns))
    | .nil => K (.str (bytesOf []))
    | _ => False
  | _ => False
theorem convBW_ex {d : TypeId} {x : LV} {K : LV → Prop} (h : convBW T H d x K) : ∃ y, K y ∧ ∀ K' : LV → Prop, K' y → convBW T H d x K' := by
  unfold convBW at h ⊢
  split at h
  · rename_i sz by' hi
    try simp only [hi]
    cases x <;> simp only at h ⊢ <;> try exact h.elim
    · exact ⟨_, h, fun _ h => h⟩
    · obtain ⟨ns, h1, h2⟩ := h; exact ⟨_, h2, fun _ h => ⟨ns, h1, h⟩⟩
    · rename_i id n
      cases hc : H[id]? with
      | none => rw [hc] at h; exact h.elim
      | some b =>
        rw [hc] at h
        rcases b with _ | _ | ⟨_ | _, _, _, _⟩ | _ | _ <;> simp only at h ⊢ <;> try exact h.elim
        obtain ⟨h0, ns, h1, h2⟩ := h; exact ⟨_, h2, fun _ h => ⟨h0, ns, h1, h⟩⟩
  · exact h.elim
theorem bytesOf_size : ∀ (ns : List Int) (r : ByteArray), (ns.foldl (fun r n => r.push (UInt8.ofNat n.toNat)) r).size = r.size + ns.length
  | [], r => by simp
  | n :: ns, r => by
    simp only [List.foldl_cons, List.length_cons]
    rw [bytesOf_size ns]
    simp [ByteArray.size_push]; omega
theorem RCs_bytes {ρ : Ctx} : ∀ (ns : List Int) (es : List Value), RCs ρ (ns.map (LV.int .u8)) es → es = ns.map (Value.int .u8)
  | [], es, h => by simpa [RCs] using h
  | n :: ns, es, h => by
    simp only [List.map_cons, RCs, RC] at h
    obtain ⟨c1, c2, rfl, rfl, h2⟩ := h
    rw [RCs_bytes ns c2 h2]
    rfl

theorem op_convB (hT : TabOK P T) {o : Oper} {sT d e : TypeId} {ei : TyI} {z1 z2 : Nat} {x : Operand} (ho : o.op = .convert sT d x) (hs : T sT = some ⟨.slice e, z1, z2⟩) (he : T e = some ei) (hk : ei.kind = .int .u8)
    (s : Sim X B W0 ⟨ts, H⟩ a w pl) {K : LV → List Blk → Prop} (h : convBW T H d (ev ts x) fun v => K v H) : OpRes P o a w X B W0 ts H pl K := by
  unfold convBW at h
  split at h
  rotate_left
  · exact h.elim
  rename_i sz by' hi
  obtain ⟨dd, hd, hd2, _⟩ := (hT _ _ hi).und
  obtain rfl := kind_str hd2
  obtain ⟨ds, hds, hds2, _⟩ := (hT _ _ hs).und
  obtain rfl := kind_slice hds2
  obtain ⟨de, hde, hde2, _⟩ := (hT _ _ he).und
  rw [hk] at hde2
  obtain rfl := kind_int hde2
  have hx := ev_sound s x
  have ex : ev (St.mk ts H).tmps x = ev ts x := rfl
  rw [ex] at hx
  have conv : ∀ v, (∀ b l c, v = .slice b l c → (convert sT d v).run P w = (Conv.bytesToString v).run P w) := by
    intro v b l c hv
    subst hv
    simp [convert, run_underlying hds, run_underlying hd, run_underlying hde]
  have fin : ∀ {ns : List Int} {ad : Addr} {len cap : Nat}, a.eval x = .slice (some ad) len cap → len = ns.length → ns.length ≤ maxLen → (∀ j v, (ns.map (Value.int .u8))[j]? = some v → w.cell? (ad.add j) = some v) → K (.str (bytesOf ns)) H → OpRes P o a w X B W0 ts H pl K := by
    intro ns ad len cap h1 h2 h3 h4 h5
    have hl := run_loadCells_list (P := P) w ad (ns.map (Value.int .u8)) h4
    rw [List.length_map, ← h2] at hl
    have hr := run_bytesToString (P := P) w ad len cap ns hl
    refine OpRes.pure s (v := .string (bytesOf ns)) ?_ h5 (RT_mk_str _ ?_)
    · simp only [execOp, ho, h1, Sem.run_bind, conv _ _ _ _ rfl, hr, Result.andThen_ok, Sem.run_pure]
      rfl
    · unfold bytesOf
      rw [bytesOf_size]
      simpa using h3
  have empty : ∀ {c : Nat}, a.eval x = .slice none 0 c → K (.str (bytesOf [])) H → OpRes P o a w X B W0 ts H pl K := by
    intro c h1 h5
    refine OpRes.pure s (v := .string (bytesOf [])) ?_ h5 (RT_mk_str _ (by unfold bytesOf maxLen; simp))
    simp only [execOp, ho, h1, Sem.run_bind, conv _ _ _ _ rfl, Conv.bytesToString, Result.andThen_ok, Sem.run_pure]
    rfl
  generalize ev ts x = u at h hx
  split at h
  · rename_i id n
    split at h
    · rename_i e' kk xs hc
      obtain ⟨hn, ns, rfl, hk'⟩ := h
      simp only [RT, RT1, RC] at hx
      obtain ⟨q, hq1, hq2, _, hq4⟩ := hx
      simp at hq1
      obtain ⟨es, r1, r2, r3, r4⟩ := s.good.ok id _ hc
      have hq : q = pl id := hq4 _ _ hc rfl hn
      have hes := RCs_bytes ns es r2
      rcases r1.2 with ⟨hp, h0⟩ | ⟨g, cap, cur, hp, hg, hcur, hc1, hc2, _⟩
      · have : ns = [] := List.eq_nil_of_length_eq_zero (by simpa using h0)
        subst this
        exact empty (c := 0) (by rw [hq1, hq, hp]) hk'
      · refine fin (by rw [hq1, hq, hp]) (by simp) (by simp at hc1; omega) (fun j v hv => ?_) hk'
        rw [← hes] at hv
        have hne : es ≠ [] := fun e => by subst e; simp at hv
        have := (CellsAt_row (w := w) r1 hne).2
        rw [hp] at this
        rw [add_none]
        exact this.2 j v hv
    · exact h.elim
  · rename_i xs
    obtain ⟨ns, rfl, hk'⟩ := h
    simp only [RT, RT1, RC] at hx
    obtain ⟨a', cap, h1, h2, h3, h4⟩ := hx
    simp at h1
    rcases h4 with h4 | ⟨ad, es, k, rfl, h5, h6, h7, h8, h9⟩
    · have : ns = [] := by simpa using h4
      subst this
      cases a' with
      | none => exact empty (c := cap) (by simpa using h1) hk'
      | some ad => exact fin (ns := []) (by simpa using h1) rfl (by unfold maxLen; simp) (by simp) hk'
    · have hes := RCs_bytes ns es h7
      obtain ⟨b, off, sp⟩ := ad
      have hsp : sp = none := h8.1
      subst hsp
      refine fin (by simpa using h1) rfl (by simp at h2; omega) (fun j v hv => ?_) hk'
      rw [← hes] at hv
      rw [add_none]
      exact h8.2 j v hv
  · simp only [RT, RT1, RC] at hx
    simp at hx
    exact empty (c := 0) hx h
  · exact h.elim

def nilW (x : LV) (K : LV → Prop) : Prop :=
  match x with
  | .hp i n p => K (.hp i n p)
  | .ref c => K (.ref c)
  | .clos f c => K (.clos f c)
  | _ => False
theorem nilW_ex {x : LV} {K : LV → Prop} (h : nilW x K) : ∃ y, K y ∧ ∀ K' : LV → Prop, K' y → nilW x K' := by
  unfold nilW at h ⊢
  cases x <;> simp only at h ⊢ <;> first | exact h.elim | exact ⟨_, h, fun _ h => h⟩
theorem op_nilCheckH {o : Oper} {x : Operand} (ho : o.op = .nilCheck x) (s : Sim X B W0 ⟨ts, H⟩ a w pl) {K : LV → Prop}
    (h : nilW (ev ts x) K) : ∃ v y, (∀ w', (execOp a.eval o).run P w' = .ok (.value v) w') ∧ K y ∧ RT (ctx X H pl w) y v := by
  have hx := ev_sound s x
  have ex : ev (St.mk ts H).tmps x = ev ts x := rfl
  rw [ex] at hx
  unfold nilW at h
  generalize ev ts x = u at h hx
  cases u <;> simp only at h <;> try exact h.elim
  case ref c =>
    have hx' := hx
    simp only [RT, RT1, RC] at hx'
    obtain ⟨ad, es, h1, _⟩ := hx'
    simp at h1
    exact ⟨a.eval x, _, fun w' => by simp [execOp, ho, h1], h, hx⟩
  case clos f c =>
    have hx' := hx
    simp only [RT, RT1, RC] at hx'
    obtain ⟨vs, h1, _⟩ := hx'
    simp at h1
    exact ⟨a.eval x, _, fun w' => by simp [execOp, ho, h1], h, hx⟩
  case hp i n p =>
    have hx' := hx
    simp only [RT, RT1, RC] at hx'
    obtain ⟨v, h1, _, hv, _⟩ := hx'
    rcases hv with ⟨ad, rfl⟩ | ⟨ad, rfl⟩
    all_goals
      simp at h1
      exact ⟨a.eval x, _, fun w' => by simp [execOp, ho, h1], h, hx⟩
theorem op_range (hT : TabOK P T) {o : Oper} {t : TypeId} {x : Operand} (ho : o.op = .range t x) (s : Sim X B W0 ⟨ts, H⟩ a w pl) {K : LV → List Blk → Prop}
    (h : match T t with | some ⟨.str, _, _⟩ => (match ev ts x with | .str q => K (.hp H.length 0 []) (H ++ [.it q 0]) | _ => False) | _ => False) : OpRes P o a w X B W0 ts H pl K := by
  split at h
  · rename_i sz by' hi
    obtain ⟨dd, hd, hd2, _⟩ := (hT _ _ hi).und
    obtain rfl := kind_str hd2
    split at h
    · rename_i q e
      have hx := ev_sound s x
      rw [e] at hx
      obtain ⟨vx, hq⟩ := RT_str hx
      have hb := below_alloc w (.stringIter q 0)
      have hu : ∀ b ∈ (Blk.it q 0).feet ⟨.pointer (some ⟨w.heap.size, 0, none⟩), []⟩, w.heap.size ≤ b := feet_new fun _ => Nat.le_refl _
      have hle := ctx_push s.good hb (u := ⟨.pointer (some ⟨w.heap.size, 0, none⟩), []⟩) (blk := .it q 0) hu
      have hr : (execOp a.eval o).run P w = .ok (.value (.pointer (some ⟨w.heap.size, 0, none⟩))) (w.alloc (.stringIter q 0)) := by
        simp [execOp, ho, vx, Instr.range, run_underlying hd, newObj, Sem.run]
      unfold OpRes
      rw [hr]
      refine ⟨_, _, _, h, Sim.push s hb hu (feet_nodup _) ⟨w.heap.size, rfl, s.good.base'.1, ?_, hq⟩, ?_, hle⟩
      · show (w.alloc (.stringIter q 0)).heap[w.heap.size]? = _
        simpa using heap_alloc_new w (.stringIter q 0)
      · simp only [RT, RT1, RC]
        refine ⟨_, rfl, by simp, .inl ⟨_, rfl⟩, ?_, ?_, ?_⟩
        · intro c o hc ho; rw [push_new] at hc; cases hc
        · intro b xs o hc hr; rw [push_new] at hc; cases hc; exact hr.elim
        · intro s' hc q; rw [upd_same]
    · exact h.elim
  · exact h.elim

def nextW (H : List Blk) (p : LV) (K : LV → List Blk → Prop) : Prop :=
  match p with
  | .hp id _ [] => match H[id]? with
    | some (.it q pos) => (pos < q.size → setHK H id (.it q (pos + (Utf8.decode q pos).2)) fun H' => K (.tup [.bool true, .int .i64 (pos : Int), .int .i32 ((Utf8.decode q pos).1 : Int)]) H') ∧
        (q.size ≤ pos → K (.tup [.bool false]) H)
    | _ => False
  | _ => False

theorem nextW_ex {p : LV} {K : LV → List Blk → Prop} (h : nextW H p K) : ∃ y H', K y H' ∧ ∀ K' : LV → List Blk → Prop, K' y H' → nextW H p K' := by
  unfold nextW at h ⊢
  split at h
  · rename_i id n
    cases hc : H[id]? with
    | none => rw [hc] at h; exact h.elim
    | some b =>
      rw [hc] at h
      cases b <;> simp only at h ⊢ <;> try exact h.elim
      rename_i q pos
      by_cases hp : pos < q.size
      · have := h.1 hp
        rw [setHK_eq] at this
        exact ⟨_, _, this, fun K' k => ⟨fun _ => by rw [setHK_eq]; exact k, fun hh => by omega⟩⟩
      · exact ⟨_, _, h.2 (by omega), fun K' k => ⟨fun hh => by omega, fun _ => k⟩⟩
  · exact h.elim

theorem op_next {o : Oper} {x : Operand} (ho : o.op = .next x true) (s : Sim X B W0 ⟨ts, H⟩ a w pl) {K : LV → List Blk → Prop}
    (h : nextW H (ev ts x) K) : OpRes P o a w X B W0 ts H pl K := by
  unfold nextW at h
  split at h
  · rename_i id n e
    split at h
    · rename_i q pos hc
      have hx := ev_sound s x
      rw [e] at hx
      simp only [RT, RT1, RC] at hx
      obtain ⟨u, h1, hid, _, _, _, h5⟩ := hx
      simp at h1
      have hu := h5 _ hc trivial
      obtain ⟨b, e1, e2, e3, e4⟩ := s.good.ok id _ hc
      have e3' : w.heap[b]? = some (.stringIter q pos) := e3
      have hv : a.eval x = .pointer (some ⟨b, 0, none⟩) := by rw [h1, hu, e1]
      by_cases hp : pos < q.size
      · have h := h.1 hp
        rw [setHK_eq] at h
        have hr : (execOp a.eval o).run P w = .ok (.value (.tuple #[.bool true, .int .i64 pos, .int .i32 (Utf8.decode q pos).1])) (w.iterAt b q (pos + (Utf8.decode q pos).2)) := by
          simp only [execOp, ho, hv, Sem.run_bind, run_next_any_at (P := P) w b q pos o.type e3' hp, Result.andThen_ok, Sem.run_pure]
        have hlt : b < w.heap.size := (Array.getElem?_eq_some_iff.1 e3').1
        have hw : ∀ k, k ≠ bk (pl id) → (w.iterAt b q (pos + (Utf8.decode q pos).2)).heap[k]? = w.heap[k]? := fun k hk => by
          rw [e1] at hk
          simp only [World.iterAt]
          exact Array.getElem?_setIfInBounds_ne (fun e => hk e.symm)
        have hb : hasBk (pl id) = true := by rw [e1]; rfl
        have hz : (w.iterAt b q (pos + (Utf8.decode q pos).2)).heap.size = w.heap.size := by simp [World.iterAt]
        unfold OpRes
        rw [hr]
        refine ⟨_, _, _, h, s.setBlk hc (u := pl id) (blk' := .it q (pos + (Utf8.decode q pos).2)) trivial rfl (fun _ h => h) (feet_nodup _) hb hw hz rfl rfl rfl ⟨b, e1, e2, ?_, e4⟩, ?_, ctx_set hc (u := pl id) (blk' := .it q (pos + (Utf8.decode q pos).2)) trivial rfl (fun _ h => h) hb hw hz⟩
        · exact iterAt_heap w b q pos _ e3'
        · refine ⟨_, rfl, rfl, fun i y u hy hu => ?_⟩
          match i with
          | 0 => simp at hy hu; subst hy; subst hu; simp [RT1, RC]
          | 1 => simp at hy hu; subst hy; subst hu; simp [RT1, RC]
          | 2 => simp at hy hu; subst hy; subst hu; simp [RT1, RC]
          | i + 3 => simp at hy
      · refine OpRes.pure s (v := .tuple #[.bool false]) ?_ (h.2 (by omega)) ⟨_, rfl, rfl, fun i y u hy hu => ?_⟩
        · simp only [execOp, ho, hv, Sem.run_bind, run_next_end_at (P := P) w b q pos o.type e3' hp, Result.andThen_ok, Sem.run_pure]
        · match i with
          | 0 => simp at hy hu; subst hy; subst hu; simp [RT1, RC]
          | i + 1 => simp at hy
    · exact h.elim
  · exact h.elim

end
end Go.Lg

