/- Maps that the run has made; a row that is laid into an open place. -/
import Derived.Test.YtbiagkccgijdlaaGreatALgYC
import Derived.Test.YtbiagkccgijdlaaGreatALgMP
import Derived.Maps.Keyed
import Derived.MapKept
import Derived.StringKeys
import Derived.Carry
namespace Go.Lg
variable [GI]
set_option linter.unusedSectionVars false
set_option linter.unusedVariables false
set_option linter.unusedSimpArgs false
open Go.RowKit
open Go.Maps (Keyed)
open Go.Maps
open Go.WideMaps (keyOf_string_mk)

section
variable {P : Program} {X : Nat → Prop} {B : Nat} {W0 : Orig} {ts : List LV} {H : List Blk} {a : Act} {pl : Nat → PV} {w : World} {T : Tab}

theorem sim_newMap (s : Sim X B W0 ⟨ts, H⟩ a w pl) (mk : MK) :
    ∃ pl', Sim X B W0 ⟨ts, H ++ [.mp mk []]⟩ a (w.alloc (.map #[] 0)) pl' ∧ RT (ctx X (H ++ [.mp mk []]) pl' (w.alloc (.map #[] 0))) (.hp H.length 0 []) (.map (some w.heap.size)) ∧
      (ctx X H pl w).Le (ctx X (H ++ [.mp mk []]) pl' (w.alloc (.map #[] 0))) := by
  have hb := below_alloc w (.map #[] 0)
  have hu : ∀ b ∈ (Blk.mp mk []).feet ⟨.map (some w.heap.size), []⟩, w.heap.size ≤ b := fun b hb => by
    simp only [Blk.feet] at hb
    obtain ⟨_, hb⟩ := mem_feet.1 hb
    rw [← hb]; exact Nat.le_refl _
  have hle := ctx_push s.good hb (u := ⟨.map (some w.heap.size), []⟩) (blk := .mp mk []) hu
  refine ⟨_, Sim.push s hb hu (feet_nodup _) ⟨w.heap.size, #[], 0, rfl, s.good.base'.1, ?_, rfl, ?_, ?_, ?_⟩, ?_, hle⟩
  · show (w.alloc (.map #[] 0)).heap[w.heap.size]? = _
    simpa using heap_alloc_new w (.map #[] 0)
  · intro i e kv h; simp at h
  · intro kv h; simp at h
  · simp
  · simp only [RT, RT1, RC]
    refine ⟨_, rfl, by simp, .inr ⟨_, rfl⟩, ?_, ?_, ?_⟩
    · intro c o hc ho; rw [push_new] at hc; cases hc
    · intro b xs o hc hr; rw [push_new] at hc; cases hc; exact hr.elim
    · intro s' hc q; rw [push_new] at hc; cases hc; rw [upd_same]

def makeMapW (M : List (TypeId × MK × TypeId × TypeId)) (H : List Blk) (t : TypeId) (K : LV → List Blk → Prop) : Prop := match mpOf M t with
  | some (mk, _, _) => appK H (.mp mk []) fun H' => K (.hp H.length 0 []) H'
  | none => False
theorem op_makeMap {M : List (TypeId × MK × TypeId × TypeId)} {o : Oper} {t : TypeId} (ho : o.op = .makeMap t none) (s : Sim X B W0 ⟨ts, H⟩ a w pl) {K : LV → List Blk → Prop}
    (h : makeMapW M H t K) : OpRes P o a w X B W0 ts H pl K := by
  unfold makeMapW at h
  split at h
  · rename_i mk k e he
    rw [appK_eq] at h
    obtain ⟨pl', h4, h5, hl⟩ := sim_newMap s mk
    unfold OpRes
    have hr : (execOp a.eval o).run P w = .ok (.value (.map (some w.heap.size))) (w.alloc (.map #[] 0)) := by
      simp only [execOp, ho, Option.map_none, Sem.run_bind, run_makeMap, Result.andThen_ok, Sem.run_pure]
    rw [hr]
    exact ⟨_, _, pl', h, h4, h5, hl⟩
  · exact h.elim

/-- Where a key stands. -/
theorem find_at {M : List (TypeId × MK × TypeId × TypeId)} (hM : MpOK P M) {t k e : TypeId} {mk : MK} (he : mpOf M t = some (mk, k, e)) (s : Sim X B W0 ⟨ts, H⟩ a w pl) {id : Nat} {L : List (LV × LV)} (hc : H[id]? = some (.mp mk L))
    {x : LV} {v : Value} (hx : keyL mk x) (hv : isV x v) : ∃ b es clock, (pl id).v = .map (some b) ∧ B ≤ b ∧ w.heap[b]? = some (.map es clock) ∧ es.size = L.length ∧
      (∀ (i : Nat) (e : MapEntry) (kv : LV × LV), es[i]? = some e → L[i]? = some kv → isV kv.1 e.key ∧ isV kv.2 e.val) ∧
      (∀ kv ∈ L, keyL mk kv.1) ∧ (L.map (·.1)).Nodup ∧ (Instr.checkKey es.isEmpty 10000 k v).run P w = .ok () w ∧ (Instr.checkKey false 10000 k v).run P w = .ok () w ∧ (Instr.keyThatStays v v).run P w = .ok v w ∧
      (((Instr.findKey k v es.toList).run P w = .ok none w ∧ ∀ kv ∈ L, kv.1 ≠ x) ∨ ∃ (j : Nat) (en : MapEntry) (y : LV), (Instr.findKey k v es.toList).run P w = .ok (some (j, en.val)) w ∧ es[j]? = some en ∧ en.key = v ∧ L[j]? = some (x, y) ∧ isV y en.val) := by
  obtain ⟨b, es, clock, e1, e2, e3, e4, e5, e6, e7⟩ := s.good.ok id _ hc
  have R := hM t mk k e he
  obtain ⟨l, hl⟩ := R.lit x v hx hv
  have hall : ∀ en ∈ es.toList, ∃ l, keyOf P k en.key = some l := fun en hen => by
    obtain ⟨i, hi, rfl⟩ := List.getElem_of_mem hen
    have hi' : i < L.length := by rw [← e4]; simpa using hi
    have := (e5 i es[i] L[i] (by simp) (by simp [hi'])).1
    exact R.lit _ _ (e6 _ (List.getElem_mem hi')) (by simpa using this)
  refine ⟨b, es, clock, e1, e2, e3, e4, e5, e6, e7, R.key.check w _ hl, R.key.check w _ hl, R.key.stays w hl, ?_⟩
  rcases R.key.find w hl es.toList hall with ⟨h1, h2⟩ | ⟨j, en, h1, h2, h3⟩
  · refine .inl ⟨h1, fun kv hkv hxx => ?_⟩
    obtain ⟨i, hi, rfl⟩ := List.getElem_of_mem hkv
    have hi' : i < es.size := by rw [e4]; exact hi
    have h5 := (e5 i es[i] L[i] (by simp [hi']) (by simp [hi])).1
    refine h2 es[i] (by simp) ?_
    exact (isV_inj (ctx X H pl w) (e6 _ (List.getElem_mem hi)) hx h5 hv).2 hxx
  · have hj : j < es.size := by
      rcases Nat.lt_or_ge j es.size with h | h
      · exact h
      · rw [List.getElem?_eq_none (by simpa using h)] at h2; cases h2
    have h2' : es[j]? = some en := by simpa using h2
    have hj' : j < L.length := by omega
    have h5 := e5 j en L[j] h2' (by simp [hj'])
    have hk : L[j].1 = x := (isV_inj (ctx X H pl w) (e6 _ (List.getElem_mem hj')) hx (by rw [← h3]; exact h5.1) hv).1 rfl
    exact .inr ⟨j, en, L[j].2, h1, h2', h3, by rw [← hk]; simp [hj'], h5.2⟩

def lookW (M : List (TypeId × MK × TypeId × TypeId)) (Z : ZTab) (H : List Blk) (t : TypeId) (p x : LV) (c : Bool) (K : LV → Prop) : Prop := match mpOf M t with
  | some (mk, _, e) => match Z e with
    | some z => match p with
      | .hp id _ [] => match H[id]? with
        | some (.mp mk' L) => mk' = mk ∧ keyL mk x ∧ ((∃ (i : Nat) (y : LV), L[i]? = some (x, y) ∧ scal y = true ∧ K (match c with | true => .tup [y, .bool true] | false => y)) ∨
            ((∀ kv ∈ L, kv.1 ≠ x) ∧ scal z = true ∧ K (match c with | true => .tup [z, .bool false] | false => z)))
        | _ => False
      | _ => False
    | none => False
  | none => False
theorem RT_pair {ρ : Ctx} {y : LV} {v : Value} (h : isV y v) (b : Bool) : RT ρ (.tup [y, .bool b]) (.tuple #[v, .bool b]) := by
  refine ⟨_, rfl, rfl, fun i z u hz hu => ?_⟩
  match i with
  | 0 => simp at hz hu; subst hz; subst hu; exact h ρ
  | 1 => simp at hz hu; subst hz; subst hu; simp [RT1, RC]
  | i + 2 => simp at hz
theorem RT_scal {ρ : Ctx} {y : LV} {v : Value} (hs : scal y = true) (h : isV y v) : RT ρ y v := by
  have := h ρ
  cases y <;> first | exact (Bool.false_ne_true hs).elim | exact this
theorem nodup_at {L : List (LV × LV)} (h : (L.map (·.1)).Nodup) {i j : Nat} {x y z : LV} (hi : L[i]? = some (x, y)) (hj : L[j]? = some (x, z)) : i = j := by
  have hi' : i < L.length := lt_of_get hi
  have hj' : j < L.length := lt_of_get hj
  have e1 : (L.map (·.1))[i]'(by simpa using hi') = x := by
    rw [List.getElem?_eq_getElem hi'] at hi; simp only [Option.some.injEq] at hi; simp [hi]
  have e2 : (L.map (·.1))[j]'(by simpa using hj') = x := by
    rw [List.getElem?_eq_getElem hj'] at hj; simp only [Option.some.injEq] at hj; simp [hj]
  exact (List.getElem_inj h).1 (e1.trans e2.symm)

theorem cells_one {v : Value} (h : v.oneCell' = true) : v.cells.toList = [v] := by
  cases v <;> first | rfl | exact (Bool.false_ne_true h).elim
theorem map_of_hp {id n : Nat} {v : Value} {mk : MK} {L : List (LV × LV)} (hc : H[id]? = some (.mp mk L)) (h : RT (ctx X H pl w) (.hp id n []) v) : v = (pl id).v := by
  simp only [RT, RT1, RC] at h
  obtain ⟨u, h1, hid, _, _, _, h5⟩ := h
  simp at h1
  rw [h1]
  exact h5 _ hc trivial

theorem op_lookup {M : List (TypeId × MK × TypeId × TypeId)} (hM : MpOK P M) {Z : ZTab} (hZ : ZOK P Z) {o : Oper} {t : TypeId} {m x : Operand} {c : Bool} (ho : o.op = .lookup t m x c) (s : Sim X B W0 ⟨ts, H⟩ a w pl) {K : LV → List Blk → Prop}
    (h : lookW M Z H t (ev ts m) (ev ts x) c fun v => K v H) : OpResS P o a w X B W0 ts H pl K := by
  have hm := ev_sound s m
  have hx := ev_sound s x
  have em0 : ev (St.mk ts H).tmps m = ev ts m := rfl
  have ex0 : ev (St.mk ts H).tmps x = ev ts x := rfl
  rw [em0] at hm
  rw [ex0] at hx
  unfold lookW at h
  split at h
  rotate_left
  · exact h.elim
  rename_i mk k e he
  split at h
  rotate_left
  · exact h.elim
  rename_i z hze
  split at h
  rotate_left
  · exact h.elim
  rename_i id n em
  split at h
  rotate_left
  · exact h.elim
  rename_i mk' L hc
  obtain ⟨rfl, hk, h⟩ := h
  have hvx := scal_isV (keyL_scal hk) hx
  rw [em] at hm
  have hmv := map_of_hp hc hm
  obtain ⟨b, es, clock, e1, e2, e3, e4, e5, e6, e7, ck, _, _, hf⟩ := find_at hM he s hc hk hvx
  have R := hM t _ k e he
  have hrun : ∀ (v : Value) (ok : Bool), (∀ j u, (Instr.findKey k (a.eval x) es.toList).run P w = .ok (some (j, u)) w → u = v ∧ ok = true) → ((Instr.findKey k (a.eval x) es.toList).run P w = .ok none w → (zeroValue e).run P w = .ok v w ∧ ok = false) →
      ((Instr.findKey k (a.eval x) es.toList).run P w = .ok none w ∨ ∃ j u, (Instr.findKey k (a.eval x) es.toList).run P w = .ok (some (j, u)) w) →
      (execOp a.eval o).run P w = .ok (.value (if c then .tuple #[v, .bool ok] else v)) w := by
    intro v ok h1 h2 h3
    rcases h3 with h3 | ⟨j, u, h3⟩
    · obtain ⟨hz, rfl⟩ := h2 h3
      simp only [execOp, ho, hmv, e1, Instr.lookup, Sem.run_bind, run_underlying R.und, Result.andThen_ok, MapKept.run_getObj_map e3, Sem.run_pure, ck, h3, hz]
    · obtain ⟨rfl, rfl⟩ := h1 j u h3
      simp only [execOp, ho, hmv, e1, Instr.lookup, Sem.run_bind, run_underlying R.und, Result.andThen_ok, MapKept.run_getObj_map e3, Sem.run_pure, ck, h3]
  rcases h with ⟨i, y, hi, hsc, hK⟩ | ⟨hno, hsc, hK⟩
  · rcases hf with ⟨_, hno⟩ | ⟨j, en, y', hfr, h2, h3, h4, h5⟩
    · exact absurd rfl (hno _ (List.mem_of_getElem? hi))
    obtain rfl := nodup_at e7 hi h4
    rw [hi] at h4
    simp only [Option.some.injEq, Prod.mk.injEq, true_and] at h4
    subst h4
    refine OpResS.pure s (hrun en.val true (fun j u hh => by rw [hfr] at hh; cases hh; exact ⟨rfl, rfl⟩) (fun hh => by rw [hfr] at hh; cases hh) (.inr ⟨_, _, hfr⟩)) hK ?_
    cases c with
    | true => exact RT_pair h5 true
    | false => exact RT_scal hsc h5
  · rcases hf with ⟨hfr, _⟩ | ⟨j, en, y', hfr, h2, h3, h4, h5⟩
    rotate_left
    · exact absurd rfl (hno _ (List.mem_of_getElem? h4))
    obtain ⟨inf, zv, i1, i2, i3⟩ := hZ e z hze
    obtain ⟨c1, hc1, hrc⟩ := litIn_RC (ρ := ctx X H pl w) z _ _ i3
    have h1c := R.one inf zv i1 i2
    have hc1' : [zv] = c1 := by rw [← cells_one h1c, hc1, List.append_nil]
    have hzv : isV z zv := by
      refine scal_isV (ρ := ctx X H pl w) hsc ?_
      unfold scal at hsc
      split at hsc
      · simp only [RC] at hrc
        simp only [RT, RT1, RC]
        rw [hc1']; exact hrc
      · simp only [RC] at hrc
        simp only [RT, RT1, RC]
        rw [hc1']; exact hrc
      · simp only [RC] at hrc
        simp only [RT, RT1, RC]
        rw [hc1']; exact hrc
      · simp only [RC, RCs] at hrc
        obtain ⟨_, _, hrc, rfl, _, _, rfl, rfl, rfl⟩ := hrc
        rw [hrc] at hc1'
        simp at hc1'
      · cases hsc
    have hzr : (zeroValue e).run P w = .ok zv w := by simp [zeroValue, typeInfo, i1, i2, Sem.run]
    refine OpResS.pure s (hrun zv false (fun j u hh => by rw [hfr] at hh; cases hh) (fun _ => ⟨hzr, rfl⟩) (.inl hfr)) hK ?_
    cases c with
    | true => exact RT_pair hzv false
    | false => exact RT_scal hsc hzv

def updW (M : List (TypeId × MK × TypeId × TypeId)) (H : List Blk) (t : TypeId) (p x y : LV) (K : List Blk → Prop) : Prop := match mpOf M t with
  | some (mk, _, _) => match p with
    | .hp id _ [] => match H[id]? with
      | some (.mp mk' L) => mk' = mk ∧ keyL mk x ∧ scal y = true ∧ ((∃ (i : Nat) (z : LV) (L' : List (LV × LV)), L[i]? = some (x, z) ∧ L.set i (x, y) = L' ∧ setHK H id (.mp mk' L') K) ∨
          ((∀ kv ∈ L, kv.1 ≠ x) ∧ ∃ L' : List (LV × LV), L ++ [(x, y)] = L' ∧ setHK H id (.mp mk' L') K))
      | _ => False
    | _ => False
  | none => False

theorem op_mapUpdate {M : List (TypeId × MK × TypeId × TypeId)} (hM : MpOK P M) {o : Oper} {t : TypeId} {m x y : Operand} (ho : o.op = .mapUpdate t m x y ∨ o.op = .insert t m x y) (s : Sim X B W0 ⟨ts, H⟩ a w pl) {K : LV → List Blk → Prop}
    (h : updW M H t (ev ts m) (ev ts x) (ev ts y) fun H' => K .undef H') : OpRes P o a w X B W0 ts H pl K := by
  have hm := ev_sound s m
  have hx := ev_sound s x
  have hy := ev_sound s y
  have em0 : ev (St.mk ts H).tmps m = ev ts m := rfl
  have ex0 : ev (St.mk ts H).tmps x = ev ts x := rfl
  have ey0 : ev (St.mk ts H).tmps y = ev ts y := rfl
  rw [em0] at hm
  rw [ex0] at hx
  rw [ey0] at hy
  unfold updW at h
  split at h
  rotate_left
  · exact h.elim
  rename_i mk k e he
  split at h
  rotate_left
  · exact h.elim
  rename_i id n em
  split at h
  rotate_left
  · exact h.elim
  rename_i mk' L hc
  obtain ⟨rfl, hk, hsy, h⟩ := h
  have hvx := scal_isV (keyL_scal hk) hx
  have hvy := scal_isV hsy hy
  rw [em] at hm
  have hmv := map_of_hp hc hm
  obtain ⟨b, es, clock, e1, e2, e3, e4, e5, e6, e7, _, ck, st, hf⟩ := find_at hM he s hc hk hvx
  have R := hM t _ k e he
  have hlt : b < w.heap.size := (Array.getElem?_eq_some_iff.1 e3).1
  have hb : hasBk (pl id).v = true := by rw [e1]; rfl
  have fin : ∀ (es' : Array MapEntry) (clock' : Nat) (L' : List (LV × LV)), (execOp a.eval o).run P w = .ok .skip { w with heap := w.heap.setIfInBounds b (.map es' clock') } → es'.size = L'.length →
      (∀ (i : Nat) (e : MapEntry) (kv : LV × LV), es'[i]? = some e → L'[i]? = some kv → isV kv.1 e.key ∧ isV kv.2 e.val) → (∀ kv ∈ L', keyL mk' kv.1) → (L'.map (·.1)).Nodup → K .undef (H.set id (.mp mk' L')) → OpRes P o a w X B W0 ts H pl K := by
    intro es' clock' L' hr q1 q2 q3 q4 hK
    have hw : ∀ k, k ≠ bk (pl id).v → ({ w with heap := w.heap.setIfInBounds b (.map es' clock') } : World).heap[k]? = w.heap[k]? := fun k hk => by
      rw [e1] at hk
      exact Array.getElem?_setIfInBounds_ne (fun e => hk e.symm)
    have hz : ({ w with heap := w.heap.setIfInBounds b (.map es' clock') } : World).heap.size = w.heap.size := by simp
    unfold OpRes
    rw [hr]
    refine ⟨_, _, hK, s.setBlk hc (u := pl id) (blk' := .mp mk' L') trivial rfl (fun _ h => h) (feet_nodup _) hb hw hz rfl rfl rfl ⟨b, es', clock', e1, e2, ?_, q1, q2, q3, q4⟩, ctx_set hc (u := pl id) (blk' := .mp mk' L') trivial rfl (fun _ h => h) hb hw hz⟩
    show ({ w with heap := w.heap.setIfInBounds b (.map es' clock') } : World).heap[b]? = _
    simp [hlt]
  rcases h with ⟨i, z, L', hi, hL, hK⟩ | ⟨hno, L', hL, hK⟩
  · rw [setHK_eq] at hK
    rcases hf with ⟨_, hno⟩ | ⟨j, en, y', hfr, h2, h3, h4, h5⟩
    · exact absurd rfl (hno _ (List.mem_of_getElem? hi))
    obtain rfl := nodup_at e7 hi h4
    subst hL
    have hil := lt_of_get hi
    refine fin (es.modify i fun e => { e with key := a.eval x, val := a.eval y }) clock _ ?_ (by simp [e4]) ?_ ?_ ?_ hK
    · rcases ho with ho | ho <;> simp only [execOp, ho, hmv, e1, Instr.mapUpdate, Sem.run_bind, run_underlying R.und, Result.andThen_ok, MapKept.run_getObj_map e3, ck, hfr, h2, Option.map_some, Option.getD_some, h3, st, MapKept.run_setObj_map _ e3, Sem.run_pure]
    · intro i' e' kv he' hkv
      rw [Array.getElem?_modify] at he'
      rw [List.getElem?_set] at hkv
      split at he'
      · rename_i hii
        subst hii
        rw [if_pos rfl, if_pos hil] at hkv
        cases hkv
        rw [h2] at he'
        cases he'
        exact ⟨hvx, hvy⟩
      · rename_i hii
        rw [if_neg hii] at hkv
        exact e5 _ _ _ he' hkv
    · intro kv hkv
      rcases List.mem_or_eq_of_mem_set hkv with h | rfl
      · exact e6 _ h
      · exact hk
    · have : (L.set i (ev ts x, ev ts y)).map (·.1) = L.map (·.1) := by
        rw [List.map_set]
        apply List.ext_getElem?
        intro j
        rw [List.getElem?_set]
        split
        · rename_i hh
          subst hh
          rw [List.getElem?_map, hi]
          simp [hil]
        · rfl
      rw [this]; exact e7
  · rw [setHK_eq] at hK
    rcases hf with ⟨hfr, _⟩ | ⟨j, en, y', hfr, h2, h3, h4, h5⟩
    rotate_left
    · exact absurd rfl (hno _ (List.mem_of_getElem? h4))
    subst hL
    refine fin (es.push { key := a.eval x, val := a.eval y, born := clock }) (clock + 1) _ ?_ (by simp [e4]) ?_ ?_ ?_ hK
    · rcases ho with ho | ho <;> simp only [execOp, ho, hmv, e1, Instr.mapUpdate, Sem.run_bind, run_underlying R.und, Result.andThen_ok, MapKept.run_getObj_map e3, ck, hfr, MapKept.run_setObj_map _ e3, Sem.run_pure]
    · intro i' e' kv he' hkv
      rw [Array.getElem?_push] at he'
      rw [List.getElem?_append] at hkv
      split at he'
      · rename_i hii
        subst hii
        cases he'
        rw [if_neg (by omega), e4, Nat.sub_self] at hkv
        simp at hkv
        subst hkv
        exact ⟨hvx, hvy⟩
      · rename_i hii
        have hi' : i' < es.size := (Array.getElem?_eq_some_iff.1 he').1
        rw [if_pos (by omega)] at hkv
        exact e5 _ _ _ he' hkv
    · intro kv hkv
      rcases List.mem_append.1 hkv with h | h
      · exact e6 _ h
      · simp at h; subst h; exact hk
    · rw [List.map_append]
      refine List.nodup_append.2 ⟨e7, by simp, fun u hu v hv e => ?_⟩
      simp at hv
      subst hv
      obtain ⟨kv, hkv, rfl⟩ := List.mem_map.1 hu
      exact hno kv hkv e

/-! ### What is open is given up: the place reads as anything -/
theorem sim_closeU (s : Sim X B W0 ⟨ts, H⟩ a w pl) {i j m : Nat} {e k : Nat} {g : LV → List LV} (hi : H[i]? = some (.opn e k g j m)) :
    ∃ pl', Sim X B W0 ⟨ts, H.set i (.row true e k (g .undef))⟩ a w pl' ∧ (ctx X H pl w).Le (ctx X (H.set i (.row true e k (g .undef))) pl' w) := by
  obtain ⟨pre, post, v, p, r1, r2, r3, r4, r5, r6, r7, r8⟩ := s.good.ok i _ hi
  obtain ⟨_, ⟨sa, sl, sc, hsv⟩, _⟩ := r8
  have hplace : RRc w (owned X H pl) B (.st (g .nil)) (pre ++ .slice none 0 0 :: post) (pl i).fp := by simp only [RRc]; exact r2
  obtain ⟨pre', d, post', b1, bx, b2, hes, hfp, m1, m2, m3⟩ := RRc_place p _ _ _ _ hplace r5
  rw [r6] at m1
  have hpl : pre.length = pre'.length := Option.some.inj m1
  unfold RRc at m2
  have hd : d = [.slice none 0 0] := by simpa only [RC] using m2.1
  have hbx : bx = [] := m2.2
  subst hd; subst hbx
  have hpp : pre = pre' ∧ post = post' := by
    have h1 : pre ++ (.slice none 0 0 :: post) = pre' ++ (.slice none 0 0 :: post') := by rw [hes]; simp
    obtain ⟨h2, h3⟩ := List.append_inj h1 hpl
    exact ⟨h2, by simpa using h3⟩
  obtain ⟨rfl, rfl⟩ := hpp
  have own : RRc w (owned X H pl) B .undef [v] [] := by
    simp only [RRc, RC]
    exact ⟨⟨v, rfl, by rw [hsv]; rfl⟩, trivial⟩
  have k3 := m3 _ [v] _ own
  rw [r7] at k3
  simp only [RRc] at k3
  have k3' : RRcs w (owned X H pl) B (g .undef) (pre ++ v :: post) (b1 ++ b2) := by simpa using k3
  have hlen : (g .undef).length = (g .nil).length := by
    cases p with
    | nil => simp [getP] at r5
    | cons f q =>
      have h7 := r7 .undef
      cases hz : (g .nil)[f]? with
      | none => simp only [setP, hz, LV.st.injEq] at h7; rw [← h7]
      | some z => simp only [setP, hz, LV.st.injEq] at h7; rw [← h7]; simp
  have nd := s.good.nd i _ hi trivial
  have nd' : (feet (pl i).v ++ (b1 ++ b2)).Nodup := by
    have : (Blk.opn e k g j m).feet (pl i) = feet (pl i).v ++ (b1 ++ b2) := by simp only [Blk.feet]; rw [hfp]; simp
    rwa [this] at nd
  have fi : ∀ c, c ∈ feet (pl i).v ++ (b1 ++ b2) → c ∈ (Blk.opn e k g j m).feet (pl i) := fun c hc => by
    simp only [Blk.feet]; rw [hfp]; simpa using hc
  have sameG : same (.st (g .nil)) (.st (g .undef)) = true := by rw [← r7 .undef]; exact setP_same p _ _ .undef r5 rfl
  obtain ⟨g', hle⟩ := s.good.one (H' := H.set i (.row true e k (g .undef))) (pl' := upd pl i ⟨(pl i).v, b1 ++ b2⟩) (id := i) (w' := w) (nb := .row true e k (g .undef))
    (by simp) (by rw [List.getElem?_set_self (by simpa using lt_of_get hi)])
    (fun i' b hb hne lv => by
      rcases set_get hb with ⟨rfl, _⟩ | ⟨_, h⟩
      · exact absurd rfl hne
      · exact h)
    (fun i' hne => upd_other _ hne)
    (.inr ⟨_, hi, ⟨_, rfl, hlen, fun p' o hq => same_off p' _ _ o sameG hq⟩, by rw [upd_same]⟩)
    (fun c hc => by
      rw [upd_same] at hc
      exact .inr ⟨i, _, hi, trivial, fi c hc⟩)
    (fun i' b c hb hne lv hc hn => by
      rw [upd_same] at hn
      rcases set_get hb with ⟨rfl, _⟩ | ⟨_, h⟩
      · exact hne rfl
      exact hne (s.good.inj i' i b _ c h lv hi trivial hc (fi c hn)))
    (by
      rw [upd_same]
      exact nd')
    (Nat.le_refl _) rfl rfl rfl (fun c _ => .inl rfl)
    (fun hle => by
      rw [upd_same]
      refine ⟨pre ++ v :: post, by rw [hlen]; exact r1, RRcs.mono hle.pure _ _ _ (fun c _ => rfl) k3', ?_, r4⟩
      intro y hy
      obtain ⟨n, hn⟩ := List.getElem_of_mem hy
      obtain ⟨hn1, hn2⟩ := hn
      obtain ⟨x, hx1, hx2⟩ := sames_get (g .nil) _ n y (by simpa only [same] using sameG) (by rw [← hn2]; exact List.getElem?_eq_getElem hn1)
      rw [same_size _ _ hx2]
      exact r3 x (List.mem_of_getElem? hx1))
  exact ⟨_, ⟨g', s.defers, s.size, fun t x hx => RT.mono hle _ _ (s.tmps t x hx), s.le.trans hle⟩, hle⟩

/-- A row is laid where one is open. -/
def storeO (T : Tab) (H : List Blk) (t : TypeId) (p x : LV) (K : List Blk → Prop) : Prop := match p with
  | .hp id _ (_ :: _) => match H[id]? with
    | some (.opn e k g _ _) => setHK H id (.row true e k (g .undef)) fun H2 => storeT T H2 t p x K
    | _ => False
  | _ => False
theorem op_storeO (hT : TabOK P T) {o : Oper} {t : TypeId} {p x : Operand} (ho : o.op = .store t p x) (s : Sim X B W0 ⟨ts, H⟩ a w pl) {K : LV → List Blk → Prop}
    (h : storeO T H t (ev ts p) (ev ts x) fun H' => K .undef H') : OpRes P o a w X B W0 ts H pl K := by
  unfold storeO at h
  split at h
  rotate_left
  · exact h.elim
  rename_i id n f q ep
  split at h
  rotate_left
  · exact h.elim
  rename_i e k g j m hi
  rw [setHK_eq] at h
  obtain ⟨pl1, s1, hle⟩ := sim_closeU s hi
  have hr := op_storeT hT ho s1 (K := K) h
  unfold OpRes at hr ⊢
  split at hr
  · obtain ⟨x, H', pl', k1, k2, k3, k4⟩ := hr
    exact ⟨x, H', pl', k1, k2, k3, hle.trans k4⟩
  · obtain ⟨H', pl', k1, k2, k4⟩ := hr
    exact ⟨H', pl', k1, k2, hle.trans k4⟩
  · refine hr.mono ?_
    rintro e' w' ⟨v, hv, x, H', pl', k1, k2, k3, k4⟩
    exact ⟨v, hv, x, H', pl', k1, k2, k3, hle.trans k4⟩
  · exact hr.elim
end
end Go.Lg

