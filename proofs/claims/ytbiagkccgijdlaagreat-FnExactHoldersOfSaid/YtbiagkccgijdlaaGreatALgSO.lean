/- slices.SortFunc by handles: the row is sorted where it lies. Over any program that bears the library's text. -/
import Derived.Test.YtbiagkccgijdlaaGreatALgR
import Derived.Test.YtbiagkccgijdlaaGreatALgRM
import Derived.Shelf.SlSortCmp.NoneTotal
namespace Go.Lg
variable [GI]
set_option linter.unusedSectionVars false
set_option linter.unusedVariables false
set_option linter.unusedSimpArgs false
open Go.RowKit Go.Proofs Go.Shelf Go.Sort

theorem below_grow {w w' : World} (h : Below w.heap.size w w') : ∃ q os, w' = Go.Sort.grow (w.drewN q) os := by
  refine ⟨w'.drawn - w.drawn, w'.heap.extract w.heap.size w'.heap.size, ?_⟩
  have hh : w'.heap = w.heap ++ w'.heap.extract w.heap.size w'.heap.size := by
    apply Array.ext_getElem?
    intro k
    rw [Array.getElem?_append]
    split
    · rename_i hk; exact h.block k hk
    · rename_i hk
      rw [Array.getElem?_extract]
      have e : w.heap.size + (k - w.heap.size) = k := by omega
      rw [e]
      split
      · rfl
      · rename_i h2
        exact Array.getElem?_eq_none (by omega)
  have hd : w.drawn + (w'.drawn - w.drawn) = w'.drawn := by have := h.inc; omega
  obtain ⟨hp, tp, dr, os, out⟩ := w'
  have e1 := h.os; have e2 := h.tape; have e3 := h.output
  simp only at e1 e2 e3 hh hd ⊢
  subst e1; subst e2; subst e3
  unfold Go.Sort.grow World.drewN
  simp only
  rw [← hh, hd]

def natLV (n : Nat) : LV := .int .i64 (n : Int)
theorem RCs_nats {ρ : Ctx} : ∀ {xs : List Nat} {es : List Value}, RCs ρ (xs.map natLV) es → es = xs.map fun n : Nat => Value.int .i64 (n : Int)
  | [], es, h => by simp only [List.map_nil, RCs] at h; exact h
  | x :: xs, es, h => by
    simp only [List.map_cons, RCs] at h
    obtain ⟨c1, c2, rfl, h1, h2⟩ := h
    unfold natLV at h1
    simp only [RC] at h1
    rw [h1, RCs_nats h2]; rfl
theorem RCs_nats_of {ρ : Ctx} : ∀ (xs : List Nat), RCs ρ (xs.map natLV) (xs.map fun n : Nat => Value.int .i64 (n : Int))
  | [] => by simp [RCs]
  | x :: xs => by
    simp only [List.map_cons, RCs]
    exact ⟨[_], _, rfl, by unfold natLV; simp only [RC], RCs_nats_of xs⟩
theorem sizes_nats : ∀ (xs : List Nat), LV.sizes (xs.map natLV) = xs.length
  | [] => rfl
  | x :: xs => by simp only [List.map_cons, LV.sizes, sizes_nats xs, List.length_cons]; unfold natLV; simp only [LV.size]; omega
theorem offP_nats (xs ys : List Nat) (h : xs.length = ys.length) (p : List Nat) : offP (.st (xs.map natLV)) p = offP (.st (ys.map natLV)) p := by
  cases p with
  | nil => rfl
  | cons f q =>
    have hs : LV.sizes ((xs.map natLV).take f) = LV.sizes ((ys.map natLV).take f) := by
      rw [← List.map_take, ← List.map_take, sizes_nats, sizes_nats]; simp [h]
    simp only [offP, hs]
    rw [List.getElem?_map, List.getElem?_map]
    by_cases hf : f < xs.length
    · rw [List.getElem?_eq_getElem hf, List.getElem?_eq_getElem (by omega)]
      simp only [Option.map_some, natLV]
      cases q <;> rfl
    · rw [List.getElem?_eq_none (by omega), List.getElem?_eq_none (by omega)]

structure LtOn (N : Nat) (lt : Nat → Nat → Bool) : Prop where
  irr : ∀ x, x < N → lt x x = false
  tr : ∀ x y z, x < N → y < N → z < N → lt x y = true → lt y z = true → lt x z = true
  nt : ∀ x y z, x < N → y < N → z < N → lt x y = false → lt y z = false → lt x z = false
  tot : ∀ x y, x < N → y < N → lt x y = false → lt y x = false → x = y

theorem sortFunc_h {P : Program} {ρ : Ren} (L : SlLaysF.n6 P ρ) {F : Nat} (hFn : ρ.f 6 = F) {g N e : Nat} {y : LV} (hy : isPure y = true) {cf : Nat → Nat → Int} {lt : Nat → Nat → Bool}
    (hF : ∀ a b, a < N → b < N → FSpec P g [natLV a, natLV b, .ref y] (.int .i64 (cf a b))) (hlt : ∀ a b, a < N → b < N → lt a b = decide (cf a b < 0)) (hO : LtOn N lt)
    (xs : List Nat) (hx : ∀ x ∈ xs, x < N) (hN : xs.length < 1073741824) :
    HSpec P F [.hs 1 xs.length, .clos g [.hp 0 0 []]] [.box y, .row false e 1 (xs.map natLV)] (.tup []) [.box y, .row false e 1 ((xs.mergeSort fun a b => !lt b a).map natLV)] := by
  subst hFn
  unfold HSpec
  refine ⟨L.f6.enters rfl, fun X B w vs pl hg hsz hargs => ?_⟩
  have hsz2 : vs.size = 2 := hsz
  obtain ⟨v0, v1, rfl⟩ : ∃ v0 v1, vs = #[v0, v1] := ⟨vs[0], vs[1], by apply Array.ext' ; obtain ⟨l⟩ := vs; match l, hsz2 with | [a, b], _ => rfl⟩
  have r0 := hargs 0 _ v0 rfl rfl
  have r1 := hargs 1 _ v1 rfl rfl
  simp only [RT, RT1, RC] at r0 r1
  obtain ⟨u0, q0, q1⟩ := r0
  simp only [List.cons.injEq, and_true] at q0
  subst q0
  obtain ⟨us, q2, q3⟩ := r1
  simp only [List.cons.injEq, and_true] at q2
  subst q2
  simp only [RCs, RC] at q3
  obtain ⟨c1, c2, q4, ⟨pv, q5, q6⟩, q7⟩ := q3
  subst q5; subst q7
  obtain ⟨us⟩ := us
  simp only [List.append_nil] at q4
  subst q4
  have hb0 := hg.ok 0 _ rfl
  obtain ⟨b, es0, ty, hp0, hB0, hcell, hrc⟩ := hb0
  have hcell : w.heap[b]? = some (.cells es0.toArray ty (0, 0)) := hcell
  have hpv : pv = .pointer (some ⟨b, 0, none⟩) := by
    have := q6.2.2.1 y 0 rfl (by cases y <;> rfl)
    rw [this]
    show Value.pointer (some ⟨bk (pl 0).v, 0, none⟩) = _
    rw [hp0]; rfl
  subst hpv
  have hv0 : v0 = (pl 1).v := q1.2.2 _ _ rfl rfl (by simp)
  obtain ⟨es, hrow, hrs, hks, hk0⟩ := hg.ok 1 _ rfl
  have hes := RCs_nats hrs
  subst hes
  rw [← hv0] at hrow
  have hlen : (xs.map natLV).length = xs.length := List.length_map ..
  rw [hlen] at hrow
  have none_case : xs = [] → ∀ p cap, v0 = .slice p 0 cap → Calls P (ρ.f 6) #[v0, .func (.func g) #[] #[.pointer (some ⟨b, 0, none⟩)]] w fun e' w' => ∃ v pl', e' = .returned v ∧ Good X B ⟨w, [.box y, .row false e 1 (xs.map natLV)], pl⟩ [.box y, .row false e 1 ((xs.mergeSort fun a b => !lt b a).map natLV)] pl' w' ∧ RT (ctx X [.box y, .row false e 1 ((xs.mergeSort fun a b => !lt b a).map natLV)] pl' w') (.tup []) v ∧ (ctx X [.box y, .row false e 1 (xs.map natLV)] pl w).Le (ctx X [.box y, .row false e 1 ((xs.mergeSort fun a b => !lt b a).map natLV)] pl' w') := by
    intro hxn p cap hv
    subst hxn
    subst hv
    refine (AnyF.slices_SortFunc_none { L with } p cap _ w).mono ?_
    rintro e' w' ⟨rfl, rfl⟩
    rw [List.mergeSort_nil]
    exact ⟨_, pl, rfl, hg, RT_none, Ctx.Le.refl _⟩
  by_cases hxe : xs = []
  · rcases hrow.2 with ⟨hn, _⟩ | ⟨gb, cap, cur, hn, _⟩
    · exact none_case hxe _ _ hn
    · rw [hxe] at hn; exact none_case hxe _ _ hn
  · rcases hrow.2 with ⟨_, hn⟩ | ⟨gb, cap, cur, hn, hgB, hgc, h1, h2, h3, h4⟩
    · exact absurd (List.eq_nil_of_length_eq_zero hn) hxe
    · have hgc2 : w.heap[gb]? = some (.cells cur e (0, 0)) := hgc
      have hcell2 : w.heap[b]? = some (.cells es0.toArray ty (0, 0)) := hcell
      have hNpos : 0 < N := by
        cases xs with
        | nil => exact absurd rfl hxe
        | cons x _ => have := hx x (by simp); omega
      obtain ⟨M, rfl⟩ : ∃ M, N = M + 1 := ⟨N - 1, by omega⟩
      rw [hn] at hv0
      have hgb : bk (pl 1).v = gb ∧ hasBk (pl 1).v = true := by rw [← hv0]; exact ⟨rfl, rfl⟩
      have hgbf : gb ∈ (Blk.row false e 1 (xs.map natLV)).feet (pl 1) := mem_feet.2 ⟨hgb.2, hgb.1⟩
      have hgo : owned X [.box y, .row false e 1 (xs.map natLV)] pl gb := .inr ⟨1, _, rfl, trivial, hgbf⟩
      have hbb : b ≠ gb := fun hE => by
        have := hg.inj 0 1 _ _ gb rfl trivial rfl trivial (by subst hE; exact mem_feet.2 ⟨by rw [hp0]; rfl, by rw [hp0]; rfl⟩) hgbf
        cases this
      have hglt : gb < w.heap.size := owned_lt hg hgo
      have hblt : b < w.heap.size := owned_lt hg (.inr ⟨0, _, rfl, trivial, mem_feet.2 ⟨by rw [hp0]; rfl, by rw [hp0]; rfl⟩⟩)
      let enc : Fin (M + 1) → Value := fun i => .int .i64 (i.val : Int)
      let cfF : Fin (M + 1) → Fin (M + 1) → Int := fun i j => cf i.val j.val
      have hlo : ∀ i j : Fin (M + 1), ltOf cfF i j = lt i.val j.val := fun i j => (hlt i.val j.val i.isLt j.isLt).symm
      have hSW : SWO (ltOf cfF) := ⟨fun x => by rw [hlo]; exact hO.irr _ x.isLt, fun x y z h k => by rw [hlo] at *; exact hO.tr _ _ _ x.isLt y.isLt z.isLt h k, fun x y z h k => by rw [hlo] at *; exact hO.nt _ _ _ x.isLt y.isLt z.isLt h k⟩
      have hTo : ∀ x y, ltOf cfF x y = false → ltOf cfF y x = false → x = y := fun x y h k => by rw [hlo] at h k; exact Fin.ext (hO.tot _ _ x.isLt y.isLt h k)
      obtain ⟨ds, hds⟩ : ∃ ds : List (Fin (M + 1)), ds.map (fun i => i.val) = xs := ⟨xs.attach.map fun x => ⟨x.1, hx x.1 x.2⟩, by simp [List.map_map, Function.comp_def, List.attach_map_val]⟩
      have hdl : ds.length = xs.length := by rw [← hds, List.length_map]
      have hH : Holds enc w gb 0 ds.toArray := by
        intro j hj
        have hj' : j < ds.length := by simpa using hj
        refine ⟨?_, by simp only [World.frozen?]; rw [hgc2]; simp⟩
        have k1 : (cur.toList.take (xs.length * 1))[j]? = (xs.map fun n : Nat => Value.int .i64 (n : Int))[j]? := by rw [h4]
        rw [List.getElem?_take_of_lt (by omega)] at k1
        simp only [World.cell?, Nat.zero_add, Option.isSome_none, Bool.false_eq_true, if_false]
        rw [hgc2]
        simp only
        rw [Array.getElem?_toList] at k1
        rw [k1, ← hds, List.map_map, List.getElem?_map, List.getElem?_eq_getElem hj']
        simp [enc, hj']
      have hcmp : CmpLays1 P g #[.pointer (some ⟨b, 0, none⟩)] enc cfF gb 0 ds.toArray.size w := by
        intro m os dk hdk i j
        have hWb : ∀ c, c < w.heap.size → c ≠ gb → (sortWorld enc w gb 0 m dk os).heap[c]? = w.heap[c]? := fun c hc hne => by
          unfold sortWorld
          show (_ ++ os)[c]? = _
          rw [Array.getElem?_append_left (by simp [putRow, mapBlock, Sort.ahead]; exact hc)]
          simp [putRow, mapBlock, Sort.ahead, Array.getElem?_modify, Ne.symm hne]
        have hWs : w.heap.size ≤ (sortWorld enc w gb 0 m dk os).heap.size := by unfold sortWorld; simp [Sort.grow, putRow, mapBlock, Sort.ahead]
        have hBel : Below B w (sortWorld enc w gb 0 m dk os) := ⟨rfl, rfl, rfl, hWs, fun k hk => hWb k (Nat.lt_of_lt_of_le hk hg.base'.1) (by omega), Nat.le_add_right _ _⟩
        generalize sortWorld enc w gb 0 m dk os = W at hWb hWs hBel
        have hI : GI.I W.heap.size W := GI.mono (Nat.le_trans hg.base'.1 hWs) (GI.keep hBel hg.base'.2)
        have hle : (ctx X [.box y, .row false e 1 (xs.map natLV)] pl w).pure.Le (pctx (fun c => c = gb) W) :=
          ⟨hWs, fun c hc ho => hWb c hc fun hE => ho (hE ▸ hgo), fun c hc ho => by subst ho; exact hgo, fun _ _ _ h => h.elim, fun _ _ _ _ h => h.elim⟩
        have hrun := (hF i.val j.val i.isLt j.isLt).run W (fun c => c = gb) (#[enc i, enc j] ++ #[.pointer (some ⟨b, 0, none⟩)]) hI (fun c hc => by subst hc; exact Nat.lt_of_lt_of_le hglt hWs) rfl (fun k x v hx hv => by
          match k with
          | 0 => simp at hx hv; subst hx; subst hv; exact rfl
          | 1 => simp at hx hv; subst hx; subst hv; exact rfl
          | 2 =>
            simp at hx hv; subst hx; subst hv
            refine ⟨⟨b, 0, none⟩, es0, rfl, Nat.lt_of_lt_of_le hblt hWs, hbb, RC.mono hle _ _ (RC_pure hrc hy), rfl, fun k u hu => ?_⟩
            have hc := hWb b hblt hbb
            simp only [World.cell?, Nat.zero_add, Option.isSome_none, Bool.false_eq_true, if_false]
            show (match W.heap[b]? with | some (.cells c _ _) => c[k]? | _ => none) = some u
            rw [hc, hcell2]
            simpa using hu
          | k + 3 => simp at hx)
        refine hrun.mono ?_
        rintro e' w' ⟨v, rfl, hb', bs, _, hr⟩
        have hv : v = .int .i64 (cf i.val j.val) := by have h := hr; simp [RR, RR1, RRc, RC] at h; exact h.1
        subst hv
        obtain ⟨q, os', rfl⟩ := below_grow hb'
        exact ⟨rfl, q, os', rfl⟩
      have hcall := Any.slices_SortFunc_total L enc (fun _ => rfl) cfF hSW g #[.pointer (some ⟨b, 0, none⟩)] gb 0 cap ds.toArray w (by have := (hF 0 0 hNpos hNpos); unfold FSpec at this; exact this.1) hcmp hH hglt (by simp [hdl]; omega) hTo
      have e0 : v0 = .slice (some ⟨gb, 0, none⟩) ds.toArray.size cap := by rw [hn]; simp [hdl]
      rw [e0]
      refine hcall.mono ?_
      rintro e' w' ⟨rfl, m, os, rfl⟩
      have hmap : ((ds.mergeSort fun x y => !(ltOf cfF) y x).map fun i => i.val) = xs.mergeSort fun a b => !lt b a := by
        rw [List.map_mergeSort (s := fun a b => !lt b a) (fun a _ b _ => by rw [hlo]), hds]
      have hSl : (ds.mergeSort fun x y => !(ltOf cfF) y x).length = xs.length := by rw [List.length_mergeSort, hdl]
      have hzl : (xs.mergeSort fun a b => !lt b a).length = xs.length := List.length_mergeSort _
      have hcells : (ds.mergeSort fun x y => !(ltOf cfF) y x).map enc = (xs.mergeSort fun a b => !lt b a).map fun n : Nat => Value.int .i64 (n : Int) := by
        rw [← hmap, List.map_map]; rfl
      rw [List.toList_toArray]
      generalize hS : (ds.mergeSort fun x y => !(ltOf cfF) y x) = S at hSl hcells
      generalize hZ : (xs.mergeSort fun a b => !lt b a) = Z at hzl hcells
      have hheap : ∀ c, c < w.heap.size → c ≠ gb → (sortWorld enc w gb 0 m S.toArray os).heap[c]? = w.heap[c]? := fun c hc hne => by
        unfold sortWorld
        show (_ ++ os)[c]? = _
        rw [Array.getElem?_append_left (by simp [putRow, mapBlock, Sort.ahead]; exact hc)]
        simp [putRow, mapBlock, Sort.ahead, Array.getElem?_modify, Ne.symm hne]
      have hgbn : (sortWorld enc w gb 0 m S.toArray os).heap[gb]? = some (.cells (putCells enc 0 S.toArray cur) e (0, 0)) := by
        unfold sortWorld
        show (_ ++ os)[gb]? = _
        rw [Array.getElem?_append_left (by simp [putRow, mapBlock, Sort.ahead]; exact hglt)]
        simp only [putRow, mapBlock, Sort.ahead, Array.getElem?_modify, if_true]
        rw [hgc2]; rfl
      have htake : (putCells enc 0 S.toArray cur).toList.take (Z.length * 1) = S.map enc := by
        apply List.ext_getElem?
        intro j
        have h3' : cur.size = cap := by rw [h3, Nat.mul_one]
        by_cases hj : j < S.length
        · rw [List.getElem?_take_of_lt (by omega), List.getElem?_map, List.getElem?_eq_getElem hj, Array.getElem?_toList]
          unfold putCells
          rw [Array.getElem?_mapIdx, Array.getElem?_eq_getElem (by omega)]
          simp [hj]
        · rw [List.getElem?_eq_none (by simp; omega), List.getElem?_eq_none (by simp; omega)]
      obtain ⟨g', hle⟩ := hg.one (H' := [.box y, .row false e 1 (Z.map natLV)]) (pl' := pl) (id := 1) (w' := sortWorld enc w gb 0 m S.toArray os) (nb := .row false e 1 (Z.map natLV))
        (by simp) rfl
        (fun i bl hb hne lv => by
          match i with
          | 0 => exact hb
          | 1 => exact absurd rfl hne
          | i + 2 => simp at hb)
        (fun i hne => rfl)
        (.inr ⟨_, rfl, ⟨_, rfl, by simp [hzl], fun p o hq => by rw [offP_nats xs Z hzl.symm]; exact hq⟩, rfl⟩)
        (fun c hc => .inr ⟨1, _, rfl, trivial, hc⟩)
        (fun i bl c hb hne lv hc hn => by
          match i with
          | 0 =>
            simp at hb; subst hb
            have := hg.inj 0 1 _ _ c rfl trivial rfl trivial hc hn
            cases this
          | 1 => exact hne rfl
          | i + 2 => simp at hb)
        (feet_nodup _)
        (by unfold sortWorld; simp [Sort.grow, putRow, mapBlock, Sort.ahead]) rfl rfl rfl
        (fun c hc => by
          by_cases hE : c = gb
          · subst hE; exact .inr ⟨1, _, rfl, trivial, hgbf, .inl rfl⟩
          · exact .inl (hheap c hc hE))
        (fun hle => by
          refine ⟨Z.map fun n : Nat => Value.int .i64 (n : Int), ⟨by simp, .inr ⟨gb, cap, _, ?_, hgB, hgbn, by simp [hzl]; exact h1, h2, by simp [putCells, h3], ?_⟩⟩, RCs_nats_of Z, fun x hx => ?_, by decide⟩
          · rw [← hv0]; simp [hzl]
          · rw [List.length_map, htake, hcells]
          · obtain ⟨n, _, rfl⟩ := List.mem_map.1 hx; rfl)
        (by show w.drawn ≤ w.drawn + m; omega)
      exact ⟨_, pl, rfl, g', RT_none, hle⟩
end Go.Lg

