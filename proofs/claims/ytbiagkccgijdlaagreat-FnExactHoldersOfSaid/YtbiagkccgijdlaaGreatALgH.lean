/- Addresses, indexes, lengths and stores, told over readings, and that the model carries them out so. -/
import Derived.Test.YtbiagkccgijdlaaGreatALgG
namespace Go.Lg
variable [GI]
set_option linter.unusedSectionVars false
set_option linter.unusedVariables false
set_option linter.unusedSimpArgs false
open Go.RowKit

section
variable {P : Program} {X : Nat → Prop} {B : Nat} {W0 : Orig} {ts : List LV} {H : List Blk} {a : Act} {pl : Nat → PV} {w : World} {T : Tab}

theorem add_none (b o j : Nat) : (⟨b, o, none⟩ : Addr).add j = ⟨b, o + j, none⟩ := by
  unfold Addr.add; split
  · rename_i e; subst e; rfl
  · rfl

theorem offP_snoc : ∀ (path : List Nat) (c : LV) (fs : List LV) (f o : Nat), getP c path = some (.st fs) → f < fs.length → offP c path = some o →
    offP c (path ++ [f]) = some (o + LV.sizes (fs.take f))
  | [], c, fs, f, o, h, hf, ho => by
    have e : c = .st fs := by cases c <;> simp_all [getP]
    subst e
    simp only [offP] at ho
    cases ho
    simp [offP, List.getElem?_eq_getElem hf]
  | g :: p, c, fs, f, o, h, hf, ho => by
    cases c <;> simp only [getP] at h <;> try cases h
    rename_i gs
    cases hg : gs[g]? with
    | none => rw [hg] at h; cases h
    | some x =>
      rw [hg] at h
      simp only [offP, hg, Option.map_eq_some_iff] at ho
      obtain ⟨o', ho', rfl⟩ := ho
      simp only [List.cons_append, offP, hg, offP_snoc p x fs f o' h hf ho', Option.map_some]
      congr 1; omega

theorem offP_of_getP {c x : LV} {path : List Nat} {ρ : Ctx} {es : List Value} (h : RC ρ c es) (hg : getP c path = some x) : ∃ o, offP c path = some o := by
  obtain ⟨pre, _, _, _, h2, _⟩ := getP_off path c x es h hg
  exact ⟨_, h2⟩

theorem op_fieldAddr (hT : TabOK P T) {o : Oper} {t : TypeId} {x : Operand} {f : Nat} (ho : o.op = .fieldAddr t x f) (s : Sim X B W0 ⟨ts, H⟩ a w pl) {K : LV → List Blk → Prop}
    (h : fieldAddrW T H t (ev ts x) f fun v => K v H) : OpResS P o a w X B W0 ts H pl K := by
  have hx := ev_sound s x
  unfold fieldAddrW at h
  split at h
  · rename_i fts offs sz by' hi
    obtain ⟨d, hd, hd2, _⟩ := (hT t _ hi).und
    obtain ⟨fs', rfl, hfts, hoffs⟩ := kind_struct hd2
    split at h
    · rename_i ft off hft hoff
      obtain ⟨h0, h⟩ := h
      have hfld : ∃ fl, fs'[f]? = some fl ∧ fl.type = ft ∧ fl.offset = off := by
        rw [hfts, List.getElem?_map] at hft
        rw [hoffs, List.getElem?_map] at hoff
        simp only [Array.getElem?_toList, Option.map_eq_some_iff] at hft hoff
        obtain ⟨fl, h1, h2⟩ := hft
        obtain ⟨fl', h1', h3⟩ := hoff
        rw [h1] at h1'
        cases h1'
        exact ⟨fl, h1, h2, h3⟩
      obtain ⟨fl, hfl, rfl, rfl⟩ := hfld
      have hsz : ∃ n, n ≠ 0 ∧ ∀ w : World, (sizeOf fl.type).run P w = .ok n w := by
        split at h0
        · rename_i fi hfi; exact ⟨_, h0, fun w => run_sizeOf (hT _ _ hfi) w⟩
        · exact h0.elim
      obtain ⟨n0, hn0, hsz⟩ := hsz
      have run : ∀ {b o' : Nat}, a.eval x = .pointer (some ⟨b, o', none⟩) → (execOp a.eval o).run P w = .ok (.value (.pointer (some ⟨b, o' + fl.offset, none⟩))) w := by
        intro b o' e1
        simp [execOp, ho, e1, Instr.fieldAt, Instr.sureAddr, run_underlying hd, hfl, fieldPlace, hsz, hn0, add_none]
      split at h
      · rename_i fs e
        rw [e] at hx
        simp only [RT, RT1, RC] at hx
        obtain ⟨ad, es, h1, h2, h3, h4, h5⟩ := hx
        simp at h1
        obtain ⟨h6, y, h7, h8⟩ := h
        obtain ⟨c1, d, c2, rfl, k1, k2, k3, k4⟩ := RCs.get h4 h7
        obtain ⟨b, o', sp⟩ := ad
        have hsp : sp = none := h5.1
        subst hsp
        refine OpResS.pure s (run h1) h8 ?_
        simp only [RT, RT1, RC]
        refine ⟨⟨b, o' + fl.offset, none⟩, d, rfl, h2, h3, k2, ?_⟩
        have := h5.mid
        rw [k4, h6] at this
        exact this
      · rename_i id n path e
        rw [e] at hx
        simp only [RT, RT1, RC] at hx
        obtain ⟨u, h1, hid, _, h3, h4, h5⟩ := hx
        simp at h1
        split at h
        · rename_i c hc
          obtain ⟨fs, k1, k2, k3, k4⟩ := h
          obtain ⟨b, es, ty, e1, e2, e3, e4⟩ := s.good.ok id _ hc
          obtain ⟨o', ho'⟩ := offP_of_getP e4 k1
          have hu := h3 c o' hc ho'
          rw [h1] at run
          refine OpResS.pure s (run hu) k4 ?_
          have hoff := offP_snoc path c fs f o' k1 k3 ho'
          rw [k2] at hoff
          simp only [RT, RT1, RC]
          refine ⟨_, rfl, hid, .inl ⟨_, rfl⟩, ?_, ?_, ?_⟩
          · intro c' o'' hc' ho''; rw [hc] at hc'; cases hc'; rw [hoff] at ho''; cases ho''; rfl
          · intro b' xs o'' hc' hr; rw [hc] at hc'; cases hc'; exact hr.elim
          · intro s' hc' q; rw [hc] at hc'; cases hc'; exact q.elim
        · rename_i tt e' k xs hc
          obtain ⟨hn, hne, fs, k1, k2, k3, k4⟩ := h
          obtain ⟨o', ho'⟩ := offP_ex _ _ _ k1
          have hu := h4 _ xs o' hc rfl hn ho'
          rw [h1] at run
          refine OpResS.pure s (run hu) k4 ?_
          have hoff := offP_snoc path (.st xs) fs f o' k1 k3 ho'
          rw [k2] at hoff
          simp only [RT, RT1, RC]
          refine ⟨_, rfl, hid, .inl ⟨_, rfl⟩, ?_, ?_, ?_⟩
          · intro c' o'' hc'; rw [hc] at hc'; cases hc'
          · intro b' xs' o'' hc' hr hn' ho''; rw [hc] at hc'; cases hc'; cases hr; rw [hoff] at ho''; cases ho''; rfl
          · intro s' hc' q; rw [hc] at hc'; cases hc'; exact q.elim
        · exact h.elim
      · exact h.elim
    · exact h.elim
  · exact h.elim

theorem sizes_take_uniform {k : Nat} {xs : List LV} (h : ∀ x ∈ xs, x.size = k) (j : Nat) (hj : j ≤ xs.length) : LV.sizes (xs.take j) = j * k := by
  rw [sizes_uniform (xs.take j) (fun x hx => h x (List.mem_of_mem_take hx))]
  rw [List.length_take, Nat.min_eq_left hj]

theorem op_indexAddr (hT : TabOK P T) {o : Oper} {t : TypeId} {x ix : Operand} (ho : o.op = .indexAddr t x ix) (s : Sim X B W0 ⟨ts, H⟩ a w pl) {K : LV → List Blk → Prop}
    (h : indexAddrW T H t (ev ts x) (ev ts ix) fun v => K v H) : OpResS P o a w X B W0 ts H pl K := by
  have hx := ev_sound s x
  have hix := ev_sound s ix
  unfold indexAddrW at h
  split at h
  · rename_i e sz by' hi
    obtain ⟨d, hd, hd2, _⟩ := (hT t _ hi).und
    obtain rfl := kind_slice hd2
    split at h
    · rename_i ei hei
      have hsz := run_sizeOf (hT e ei hei)
      split at h
      · rename_i ki i ei'
        rw [ei'] at hix
        have vix := RT_int hix
        have run : ∀ {b o' : Nat} {len cap : Nat} {j : Nat}, i = (j : Int) → j < len → a.eval x = .slice (some ⟨b, o', none⟩) len cap →
            (execOp a.eval o).run P w = .ok (.value (.pointer (some ⟨b, o' + j * ei.size, none⟩))) w := by
          intro b o' len cap j e0 hj e1
          subst e0
          have hc : (0 : Int) ≤ (j : Int) ∧ (j : Int) < (len : Int) := by omega
          simp [execOp, ho, e1, vix, Instr.indexAt, asIntOf, run_underlying hd, hj, hsz, add_none]
        split at h
        · rename_i xs e1
          rw [e1] at hx
          simp only [RT, RT1, RC] at hx
          obtain ⟨a', cap, h1, h2, h3, h4⟩ := hx
          simp at h1
          obtain ⟨j, y, k1, k2, k3, k4⟩ := h
          rcases h4 with rfl | ⟨ad, es, k, rfl, h5, h6, h7, h8, h9⟩
          · simp at k2
          · have hj := lt_of_get k2
            obtain ⟨b, o', sp⟩ := ad
            have hsp : sp = none := h8.1
            subst hsp
            have hyk : y.size = k := h9 y (List.mem_of_getElem? k2)
            refine OpResS.pure s (run k1 hj h1) k4 ?_
            obtain ⟨c1, d', c2, rfl, m1, m2, m3, m4⟩ := RCs.get h7 k2
            simp only [RT, RT1, RC]
            refine ⟨_, d', rfl, h5, h6, m2, ?_⟩
            have := h8.mid
            rw [m4, sizes_take_uniform h9 j (Nat.le_of_lt hj), ← hyk, k3] at this
            exact this
        · rename_i id n e1
          rw [e1] at hx
          simp only [RT, RT1, RC] at hx
          obtain ⟨u, h1, hid, _, h3⟩ := hx
          simp at h1
          split at h
          · rename_i tt e' k xs hc
            obtain ⟨hn, hk, j, k1, k2, k3⟩ := h
            obtain ⟨es, r1, r2, r3, r4⟩ := s.good.ok id _ hc
            have hu := h3 _ xs hc rfl hn
            have hr : ∃ g cap, (pl id).v = .slice (some ⟨g, 0, none⟩) xs.length cap := by
              rcases r1.2 with ⟨_, h0⟩ | ⟨g, cap, cur, hg, _⟩
              · omega
              · exact ⟨g, cap, hg⟩
            obtain ⟨g, cap, hg⟩ := hr
            rw [hu, hg] at h1
            refine OpResS.pure s (run k1 k2 h1) k3 ?_
            simp only [RT, RT1, RC]
            refine ⟨_, rfl, hid, .inl ⟨_, rfl⟩, ?_, ?_, ?_⟩
            · intro c' o'' hc'; rw [hc] at hc'; cases hc'
            · intro b' xs' o'' hc' hr hn' ho''
              rw [hc] at hc'; cases hc'; cases hr
              have : offP (.st xs) [j] = some (j * k) := by
                simp only [offP, List.getElem?_eq_getElem k2]
                rw [sizes_take_uniform r3 j (Nat.le_of_lt k2)]
                cases xs[j] <;> simp
              rw [this] at ho''
              cases ho''
              rw [hg, ← hk]
              simp [bk]
            · intro s' hc' q; rw [hc] at hc'; cases hc'; exact q.elim
          · exact h.elim
        · exact h.elim
      · exact h.elim
    · exact h.elim
  · exact h.elim

theorem op_index (hT : TabOK P T) {o : Oper} {t : TypeId} {x ix : Operand} (ho : o.op = .index t x ix) (s : Sim X B W0 ⟨ts, H⟩ a w pl) {K : LV → List Blk → Prop}
    (h : indexW T t (ev ts x) (ev ts ix) fun v => K v H) : OpResS P o a w X B W0 ts H pl K := by
  have hx := ev_sound s x
  have hix := ev_sound s ix
  unfold indexW at h
  split at h
  · rename_i sz by' hi
    obtain ⟨d, hd, hd2, _⟩ := (hT t _ hi).und
    obtain rfl := kind_str hd2
    split at h
    · rename_i str ki i e1 e2
      rw [e1] at hx
      rw [e2] at hix
      have vx := (RT_str hx).1
      have vix := RT_int hix
      obtain ⟨j, hj, rfl, hk⟩ := h
      refine OpResS.pure s (v := .int .u8 (str[j].toNat : Int)) ?_ hk (RT_mk_int _ _ _)
      have := run_index_string (P := P) w t str ki (j : Int) hd
      rw [dif_pos ⟨by omega, by omega⟩] at this
      simp only [execOp, ho, vx, vix]
      simp [this]
    · exact h.elim
  · exact h.elim

theorem run_part {i : TyI} {t : TypeId} (h : TyOK P t i) {ρ : Ctx} {x : LV} {es : List Value} (hx : RC ρ x es) (hf : fitT i x = true) {cs : Array Value} {c1 c2 : List Value} (hc : cs.toList = c1 ++ es ++ c2) :
    ∃ v, (part t cs c1.length).run P w = .ok v w ∧ RT ρ x v := by
  have one : ∀ v, es = [v] → (!isStruct i.kind && (i.size == 1)) = true → (part t cs c1.length).run P w = .ok v w := by
    intro v e k
    subst e
    simp only [Bool.and_eq_true, Bool.not_eq_true'] at k
    have : cs[c1.length]? = some v := by
      rw [← Array.getElem?_toList, hc]; simp
    simp [part, run_isAgg h, k.1, this]
  cases x with
  | st fs =>
    simp only [fitT, Bool.and_eq_true, beq_iff_eq] at hf
    have hl : es.length = i.size := by rw [← hf.2]; exact RCs.len _ _ (by simpa [RC] using hx)
    have hex : cs.extract c1.length (c1.length + i.size) = es.toArray := by
      apply Array.ext'
      rw [Array.toList_extract, hc, List.extract_eq_take_drop, ← hl]
      simp
    refine ⟨.agg es.toArray, ?_, ⟨es.toArray, rfl, by simpa [RC] using hx⟩⟩
    simp [part, run_isAgg h, hf.1, run_sizeOf h, hex]
  | undef => simp [fitT] at hf
  | tup vs => simp [fitT] at hf
  | own e k xs => simp [fitT] at hf
  | int k n => have e := hx; simp only [RC] at e; exact ⟨_, one _ e hf, by simp [RT, RT1, RC]⟩
  | bool k => have e := hx; simp only [RC] at e; exact ⟨_, one _ e hf, by simp [RT, RT1, RC]⟩
  | nil => have e := hx; simp only [RC] at e; exact ⟨_, one _ e hf, by simp [RT, RT1, RC]⟩
  | str k => have e := hx; simp only [RC] at e; exact ⟨_, one _ e.1 hf, by simpa [RT, RT1, RC] using e.2⟩
  | sl xs => have e := hx; simp only [RC] at e; obtain ⟨a, c, rfl, k⟩ := e; exact ⟨_, one _ rfl hf, by simp only [RT, RT1]; exact hx⟩
  | ref xs => have e := hx; simp only [RC] at e; obtain ⟨a, c, rfl, k⟩ := e; exact ⟨_, one _ rfl hf, by simp only [RT, RT1]; exact hx⟩
  | clos f xs => have e := hx; simp only [RC] at e; obtain ⟨a, rfl, k⟩ := e; exact ⟨_, one _ rfl hf, by simp only [RT, RT1]; exact hx⟩
  | ifc f xs => have e := hx; simp only [RC] at e; obtain ⟨a, rfl, k⟩ := e; exact ⟨_, one _ rfl hf, by simp only [RT, RT1]; exact hx⟩
  | hs f xs => have e := hx; simp only [RC] at e; obtain ⟨a, rfl, k⟩ := e; exact ⟨_, one _ rfl hf, by simp only [RT, RT1]; exact hx⟩
  | lit u => have e := hx; simp only [RC] at e; obtain ⟨rfl, k⟩ := e; exact ⟨_, one _ rfl hf, by simp only [RT, RT1]; exact hx⟩
  | hp f n xs => have e := hx; simp only [RC] at e; obtain ⟨a, rfl, k⟩ := e; exact ⟨_, one _ rfl hf, by simp only [RT, RT1]; exact hx⟩

theorem op_field (hT : TabOK P T) {o : Oper} {t : TypeId} {x : Operand} {f : Nat} (ho : o.op = .field t x f) (s : Sim X B W0 ⟨ts, H⟩ a w pl) {K : LV → List Blk → Prop}
    (h : fieldW T t (ev ts x) f fun v => K v H) : OpResS P o a w X B W0 ts H pl K := by
  have hx := ev_sound s x
  unfold fieldW at h
  split at h
  · rename_i fts offs sz by' hi
    obtain ⟨d, hd, hd2, _⟩ := (hT t _ hi).und
    obtain ⟨fs', rfl, hfts, hoffs⟩ := kind_struct hd2
    split at h
    · rename_i ft off hft hoff
      have hfld : ∃ fl, fs'[f]? = some fl ∧ fl.type = ft ∧ fl.offset = off := by
        rw [hfts, List.getElem?_map] at hft
        rw [hoffs, List.getElem?_map] at hoff
        simp only [Array.getElem?_toList, Option.map_eq_some_iff] at hft hoff
        obtain ⟨fl, h1, h2⟩ := hft
        obtain ⟨fl', h1', h3⟩ := hoff
        rw [h1] at h1'
        cases h1'
        exact ⟨fl, h1, h2, h3⟩
      obtain ⟨fl, hfl, rfl, rfl⟩ := hfld
      split at h
      · rename_i fi hfi
        split at h
        · rename_i fs e
          rw [e] at hx
          obtain ⟨cs, h1, h2⟩ := hx
          obtain ⟨k1, y, k2, k3, k4⟩ := h
          obtain ⟨c1, d', c2, hcs, m1, m2, m3, m4⟩ := RCs.get h2 k2
          obtain ⟨v, hv, hr⟩ := run_part (w := w) (hT _ _ hfi) m2 k3 hcs
          rw [m4, k1] at hv
          refine OpResS.pure s (v := v) ?_ k4 hr
          simp [execOp, ho, h1, Instr.field, run_underlying hd, hfl, asAgg, hv]
        · exact h.elim
      · exact h.elim
    · exact h.elim
  · exact h.elim

theorem op_len (hT : TabOK P T) {o : Oper} {t : TypeId} {x : Operand} (ho : o.op = .call { callee := .builtin .len, args := #[x], argTypes := #[t] }) (s : Sim X B W0 ⟨ts, H⟩ a w pl) {K : LV → List Blk → Prop}
    (h : lenW T H t (ev ts x) fun v => K v H) : OpResS P o a w X B W0 ts H pl K := by
  have hx := ev_sound s x
  unfold lenW at h
  split at h
  · rename_i sz by' hi
    obtain ⟨d, hd, hd2, _⟩ := (hT t _ hi).und
    obtain rfl := kind_str hd2
    split at h
    · rename_i str e
      rw [e] at hx
      obtain ⟨vx, hb⟩ := RT_str hx
      exact OpResS.pure s (v := .int .i64 (str.size : Int)) (by simp [execOp, ho, vx, resolve, invoke, builtin, Builtin.len_, run_underlying hd, goInt]) (h hb) (RT_mk_int _ _ _)
    · exact h.elim
  · rename_i e' sz by' hi
    obtain ⟨d, hd, hd2, _⟩ := (hT t _ hi).und
    obtain rfl := kind_slice hd2
    have run : ∀ {b n c}, a.eval x = .slice b n c → (execOp a.eval o).run P w = .ok (.value (.int .i64 (n : Int))) w := by
      intro b n c e1
      simp [execOp, ho, e1, resolve, invoke, builtin, Builtin.len_, run_underlying hd, goInt]
    split at h
    · rename_i e
      rw [e] at hx
      simp [RT, RT1, RC] at hx
      exact OpResS.pure s (run hx) h (RT_mk_int _ _ _)
    · rename_i xs e
      rw [e] at hx
      simp only [RT, RT1, RC] at hx
      obtain ⟨a', cap, h1, h2, h3, h4⟩ := hx
      simp at h1
      exact OpResS.pure s (run h1) (h (by omega)) (RT_mk_int _ _ _)
    · rename_i id n e
      rw [e] at hx
      simp only [RT, RT1, RC] at hx
      obtain ⟨u, h1, hid, _, h3⟩ := hx
      simp at h1
      split at h
      · rename_i tt e'' k xs hc
        obtain ⟨hn, hk⟩ := h
        obtain ⟨es, r1, r2, r3, r4⟩ := s.good.ok id _ hc
        have hu := h3 _ xs hc rfl hn
        rw [hu] at h1
        have hr : ∃ g cap, (pl id).v = .slice g xs.length cap ∧ xs.length ≤ maxLen := by
          rcases r1.2 with ⟨h0, h0'⟩ | ⟨g, cap, cur, hg, _, _, hc1, hc2, _⟩
          · exact ⟨none, 0, by rw [h0, h0'], by omega⟩
          · exact ⟨_, cap, hg, Nat.le_trans hc1 hc2⟩
        obtain ⟨g, cap, hg, hm⟩ := hr
        rw [hg] at h1
        exact OpResS.pure s (run h1) (hk hm) (RT_mk_int _ _ _)
      · exact h.elim
    · exact h.elim
  · exact h.elim

theorem RCs_atom {ρ : Ctx} : ∀ (fs : List LV) (cs : List Value), fs.all atomP = true → RCs ρ fs cs → RCs ρ.pure fs cs
  | [], cs, _, h => by simp only [RCs] at h ⊢; exact h
  | y :: ys, cs, k, h => by
    simp only [List.all_cons, Bool.and_eq_true] at k
    simp only [RCs] at h ⊢
    obtain ⟨c1, c2, rfl, h1, h2⟩ := h
    refine ⟨c1, c2, rfl, ?_, RCs_atom ys c2 k.2 h2⟩
    obtain ⟨k1, _⟩ := k
    cases y <;> first
      | (simp [atomP] at k1; done)
      | (simp only [RC] at h1; done)
      | (simp only [RC] at h1 ⊢; exact h1)

theorem RC_clos0 {ρ ρ' : Ctx} {f : FuncId} {es : List Value} (h : RC ρ (.clos f []) es) : RC ρ' (.clos f []) es := by
  simp only [RC, RCs] at h ⊢; exact h
theorem RC_pure {X : Nat → Prop} {H : List Blk} {pl : Nat → PV} {w : World} {x : LV} {es : List Value} (h : RC (ctx X H pl w) x es) (k : isPure x = true) : RC (ctx X H pl w).pure x es := by
  cases x
  case clos f cs =>
    cases cs with
    | nil => exact RC_clos0 h
    | cons c cs => simp [isPure] at k
  all_goals (simp only [isPure] at k; try cases k)
  case int k n => simp only [RC] at h ⊢; exact h
  case bool k => simp only [RC] at h ⊢; exact h
  case str k => simp only [RC] at h ⊢; exact h
  case lit u => simp only [RC] at h ⊢; exact h
  case nil => simp only [RC] at h ⊢; exact h
  case sl xs => simp only [RC] at h ⊢; exact h
  case ref xs => simp only [RC] at h ⊢; exact h
  case ifc t fs => simp only [RC] at h ⊢; obtain ⟨vs, rfl, h⟩ := h; exact ⟨vs, rfl, RCs_atom _ _ k h⟩
  case st fs =>
    rw [RC_st] at h ⊢
    induction fs generalizing es with
    | nil => simp only [RCs] at h ⊢; exact h
    | cons y ys ih =>
      simp only [List.all_cons, Bool.and_eq_true] at k
      simp only [RCs] at h ⊢
      obtain ⟨c1, c2, rfl, h1, h2⟩ := h
      refine ⟨c1, c2, rfl, ?_, ih h2 k.2⟩
      obtain ⟨k1, _⟩ := k
      cases y
      case clos f cs =>
        cases cs with
        | nil => exact RC_clos0 h1
        | cons c cs => cases k1
      all_goals first
        | (cases k1; done)
        | (simp only [RC] at h1; done)
        | (simp only [RC] at h1 ⊢; exact h1)
        | (simp only [RC] at h1 ⊢; obtain ⟨vs, rfl, h1⟩ := h1; exact ⟨vs, rfl, RCs_atom _ _ k1 h1⟩)

theorem op_store (hT : TabOK P T) {o : Oper} {t : TypeId} {p x : Operand} (ho : o.op = .store t p x) (s : Sim X B W0 ⟨ts, H⟩ a w pl) {K : LV → List Blk → Prop}
    (h : storeW T H t (ev ts p) (ev ts x) fun H' => K .undef H') : OpRes P o a w X B W0 ts H pl K := by
  have hp := ev_sound s p
  have hx := ev_sound s x
  unfold storeW at h
  cases hi : T t with
  | none => rw [hi] at h; exact h.elim
  | some i =>
    rw [hi] at h
    have hty := hT t i hi
    simp only at h
    split at h
    · rename_i id n path e
      rw [e] at hp
      simp only [RT, RT1, RC] at hp
      obtain ⟨u, h1, h2⟩ := hp
      simp at h1
      subst h1
      have okx : ∀ {y}, fitT i (ev ts x) = true → same y (ev ts x) = true → RC (ctx X H pl w) (ev ts x) (a.eval x).cells.toList ∧ (a.eval x).cells.size = i.size := by
        intro y hf _
        have k : okBox (ev ts x) = true := by cases hh : ev ts x <;> rw [hh] at hf <;> first | rfl | (simp [fitT] at hf)
        have hc := RT_cells hx k
        refine ⟨hc, ?_⟩
        have hl := RC.len _ _ hc
        rw [Array.length_toList] at hl
        rw [hl]
        cases hh : ev ts x <;> rw [hh] at hf <;> simp [fitT, LV.size] at hf ⊢ <;> omega
      have run : ∀ {b o' : Nat} {cur : Array Value} {ty : TypeId}, a.eval p = .pointer (some ⟨b, o', none⟩) → w.heap[b]? = some (.cells cur ty (0, 0)) → (a.eval x).cells.size = i.size →
          o' + (a.eval x).cells.toList.length ≤ cur.size → RC (ctx X H pl w) (ev ts x) (a.eval x).cells.toList →
          (execOp a.eval o).run P w = .ok .skip (w.setRow b (cur.toList.take o' ++ (a.eval x).cells.toList ++ cur.toList.drop (o' + (a.eval x).cells.toList.length)).toArray) := by
        intro b o' cur ty e1 e2 e3 e4 e5
        have := run_storeCells_at P b o' ty (a.eval x).cells.toList 0 cur w e2 (by simpa using e4) (RC.one (okCells_ctx X H pl w) _ _ e5)
        simp only [Nat.add_zero] at this
        simp only [execOp, ho, e1, Instr.storeAt, Instr.sureAddr, storeVar]
        simp [run_sizeOf hty, e3, this]
      have fin : ∀ {b : Nat} {blk blk' : Blk} {cs : Array Value} {cur : Array Value} {ty : TypeId}, H[id]? = some blk → relBlk blk blk' → blk'.feet (pl id) = blk.feet (pl id) → hasBk (pl id) = true → bk (pl id) = b →
          w.heap[b]? = some (.cells cur ty (0, 0)) → (execOp a.eval o).run P w = .ok .skip (w.setRow b cs) → K .undef (H.set id blk') →
          BlkOK B (ctx X (H.set id blk') pl (w.setRow b cs)) (pl id) blk' → OpRes P o a w X B W0 ts H pl K := by
        intro b blk blk' cs cur ty e1 e2 efe e3 e4 e5 e6 e7 e8
        have ef : ∀ c ∈ blk'.feet (pl id), c ∈ blk.feet (pl id) := fun c hc => by rw [← efe]; exact hc
        unfold OpRes
        rw [e6]
        subst e4
        have k1 := s.setBlk (u := pl id) e1 e2 rfl ef (by rw [efe]; exact s.good.nd id _ e1 e2.live.1) e3 (fun b' hb' => setRow_other w _ b' cs hb') (by simp) (by simp) (by simp) (by simp) (by rw [upd_id]; exact e8)
        have k2 := ctx_set (X := X) (w := w) (w' := w.setRow (bk (pl id)) cs) (u := pl id) e1 e2 rfl ef e3 (fun b' hb' => setRow_other w _ b' cs hb') (by simp)
        rw [upd_id] at k1 k2
        exact ⟨_, pl, e7, k1, k2⟩
      split at h
      · rename_i c hc
        obtain ⟨y, k1, k2, k3, k4⟩ := h
        obtain ⟨hxc, hxs⟩ := okx k2 k3
        obtain ⟨b, es, ty, e1, e2, e3, e4⟩ := s.good.ok id _ hc
        obtain ⟨o', ho'⟩ := offP_of_getP e4 k1
        have hv := h2.2.2.1 c o' hc ho'
        rw [e1] at hv
        have hl : (a.eval x).cells.toList.length = y.size := by rw [RC.len _ _ hxc]; exact same_size _ _ k3
        obtain ⟨pre, d, post, rfl, m1, m2, m3⟩ := setP_off path c y (ev ts x) es _ e4 k1 hxc hl
        rw [m2] at ho'
        cases ho'
        have rr := run hv e3 hxs (by rw [← m1]; simp) hxc
        have ecs : (pre ++ d ++ post).toArray.toList.take pre.length ++ (a.eval x).cells.toList ++ (pre ++ d ++ post).toArray.toList.drop (pre.length + (a.eval x).cells.toList.length) = pre ++ (a.eval x).cells.toList ++ post := by
          rw [← m1]
          simp
        rw [ecs] at rr
        have hrel : relBlk (.box c) (.box (setP c path (ev ts x))) := fun q o'' hq => same_off q c _ o'' (setP_same path c y _ k1 k3) hq
        refine fin hc hrel rfl (by rw [e1]; rfl) (by rw [e1]; rfl) e3 rr k4 ?_
        have hle := ctx_set (X := X) (w := w) (w' := w.setRow b (pre ++ (a.eval x).cells.toList ++ post).toArray) (pl := pl) (u := pl id) hc hrel rfl (fun _ h => h) (by rw [e1]; rfl)
          (fun b' hb' => setRow_other w b b' _ (by rw [e1] at hb'; exact hb')) (by simp)
        rw [upd_id] at hle
        exact ⟨b, _, ty, e1, e2, setRow_heap w b _ _ ty (0, 0) e3, RC.mono hle _ _ m3⟩
      · rename_i e' k xs hc
        obtain ⟨hn, j, q, y, rfl, k1, k2, kp, k3, k4⟩ := h
        obtain ⟨hxc, hxs⟩ := okx k2 k3
        obtain ⟨es, r1, r2, r3, r4⟩ := s.good.ok id _ hc
        obtain ⟨o', ho'⟩ := offP_of_getP (RC_st.2 r2) k1
        have hv := h2.2.2.2.1 _ xs o' hc rfl hn ho'
        have hl : (a.eval x).cells.toList.length = y.size := by rw [RC.len _ _ hxc]; exact same_size _ _ k3
        obtain ⟨pre, d, post, rfl, m1, m2, m3⟩ := setP_off (j :: q) (.st xs) y (ev ts x) es _ (RC_st.2 r2) k1 (RC_pure hxc kp) hl
        rw [m2] at ho'
        cases ho'
        simp only [getP] at k1
        cases hj : xs[j]? with
        | none => rw [hj] at k1; cases k1
        | some z =>
          rw [hj] at k1 k4
          simp only at k4
          have es' : setP (.st xs) (j :: q) (ev ts x) = .st (xs.set j (setP z q (ev ts x))) := by simp only [setP, hj]
          have hsame : same (.st xs) (.st (xs.set j (setP z q (ev ts x)))) = true := by
            rw [← es']; exact setP_same (j :: q) (.st xs) y _ (by simp only [getP, hj]; exact k1) k3
          have hjl := lt_of_get hj
          rcases r1.2 with ⟨_, h0⟩ | ⟨g, cap, cur, hg, hbg, hcur, hnc, hcm, hcs, htake⟩
          · omega
          have hlen : (pre ++ d ++ post).length = xs.length * k := r1.1
          rw [hg] at hv
          obtain ⟨rest, hcurl⟩ : ∃ rest, cur.toList = (pre ++ d ++ post) ++ rest := ⟨cur.toList.drop (xs.length * k), by rw [← htake, List.take_append_drop]⟩
          have hroom : pre.length + (a.eval x).cells.toList.length ≤ cur.size := by
            rw [← m1, ← Array.length_toList (xs := cur), hcurl]; simp
          have rr := run hv hcur hxs hroom hxc
          have ecs : cur.toList.take pre.length ++ (a.eval x).cells.toList ++ cur.toList.drop (pre.length + (a.eval x).cells.toList.length) = (pre ++ (a.eval x).cells.toList ++ post) ++ rest := by
            rw [← m1, hcurl]
            simp [List.append_assoc]
          rw [ecs] at rr
          have hrel : relBlk (.arr e' k xs) (.arr e' k (xs.set j (setP z q (ev ts x)))) :=
            ⟨_, rfl, by simp, fun p o'' hq => same_off p _ _ o'' hsame hq⟩
          have hb1 : hasBk (pl id) = true := by rw [hg]; rfl
          have hb2 : bk (pl id) = g := by rw [hg]; rfl
          refine fin hc hrel rfl hb1 hb2 hcur rr k4 ?_
          have hle := ctx_set (X := X) (w := w) (w' := w.setRow g ((pre ++ (a.eval x).cells.toList ++ post) ++ rest).toArray) (pl := pl) (u := pl id) hc hrel rfl (fun _ h => h) hb1
            (fun b' hb' => setRow_other w g b' _ (by rw [hb2] at hb'; exact hb')) (by simp)
          rw [upd_id] at hle
          rw [es', RC_st] at m3
          refine ⟨_, ⟨?_, .inr ⟨g, cap, _, by simpa using hg, hbg, setRow_heap w g _ _ e' (0, 0) hcur, by simpa using hnc, hcm, ?_, ?_⟩⟩, RCs.mono hle.pure _ _ m3, ?_, r4⟩
          · have := hlen
            simp only [List.length_append, List.length_set] at this ⊢
            omega
          · have := congrArg List.length hcurl
            simp only [Array.length_toList, List.length_append] at this hlen
            simp only [List.size_toArray, List.length_append]
            omega
          · simp only [List.length_set]
            rw [List.take_append_of_le_length (by simp only [List.length_append] at hlen ⊢; omega), List.take_of_length_le (by simp only [List.length_append] at hlen ⊢; omega)]
          · intro u hu
            have hsz : (setP z q (ev ts x)).size = z.size := same_size _ _ (setP_same q z y _ k1 k3)
            rcases List.mem_or_eq_of_mem_set hu with hu | rfl
            · exact r3 u hu
            · rw [hsz]; exact r3 z (List.mem_of_getElem? hj)
      · exact h.elim
    · exact h.elim

end
end Go.Lg

