/- Contracts of functions of the program and of its model, told over readings. -/
import Derived.Test.YtbiagkccgijdlaaEWGD
import Derived.Test.YtbiagkccgijdlaaEWGA
import Derived.Test.YtbiagkccgijdlaaELgW
import Derived.Test.YtbiagkccgijdlaaEWGC
import Derived.KernelRfl
namespace Go.Proofs.Ytbiagkccgijdlaa
open Go.Lg Go.Pm
set_option maxHeartbeats 6400000
set_option maxRecDepth 10000
set_option linter.unusedVariables false
set_option linter.unusedSimpArgs false

/-! ### The heirs below, as the model finds them -/
def seenB (I : Nat → Bool) (out : List Nat) (q : Nat) : Bool := I q || out.contains q
def mkL (n : Nat) (M : Nat → Bool) : List LV := ((List.range n).map M).map bLV
theorem mkL_len (n : Nat) (M : Nat → Bool) : (mkL n M).length = n := by simp [mkL]
theorem mkL_get {n : Nat} {M : Nat → Bool} {i : Nat} (h : i < n) : (mkL n M)[i]? = some (.bool (M i)) := by simp [mkL, h, bLV]
theorem mkL_set {n : Nat} {M M' : Nat → Bool} {i : Nat} (h : ∀ j, j < n → M' j = if j = i then true else M j) : (mkL n M).set i (.bool true) = mkL n M' := by
  apply List.ext_getElem (by simp [mkL])
  intro j h1 h2
  have hj : j < n := by simpa [mkL] using h2
  rw [List.getElem_set]
  simp only [mkL, List.getElem_map, List.getElem_range, bLV]
  rw [h j hj]
  by_cases e : i = j
  · subst e; simp
  · have : ¬ j = i := fun e2 => e e2.symm
    simp [e, this]
def stB (ps : List Per) (x : Cus) (y : Int) (I : Nat → Bool) (out : List Nat) (c : Nat) : List Nat := fldO I out (brN ps x y c)
theorem stB_fold (ps : List Per) (x : Cus) (y : Int) (I : Nat → Bool) : ∀ (L out : List Nat), L.foldl (stB ps x y I) out = fldO I out (L.flatMap (brN ps x y))
  | [], out => rfl
  | c :: L, out => by
    rw [List.foldl_cons, stB_fold ps x y I L, List.flatMap_cons, fldO_app]
    rfl
theorem alv_late {ps : List Per} {us : List Uni} (hf : famOk ps us = true) {y : Int} {i : Nat} (hi : i < ps.length) (h : y < ps[i].born) : alv ps y i = false := by
  simp only [alv, List.getElem?_eq_getElem hi, aliveB]
  rw [show leI ps[i].born y = false by rw [leI_f]; omega]
  rfl
theorem child_late {ps : List Per} {us : List Uni} (hf : famOk ps us = true) {p i : Nat} (hi : i < ps.length) (hp : p < ps.length) (h : chQ ps (p : Int) i = true) : ps[p].born < ps[i].born := by
  obtain ⟨_, _, hpp, _, _⟩ := famOk_parts hf
  obtain ⟨_, _, _, _, _, _, p1, p2⟩ := personOk_spec (personsTo_get hpp hi hi)
  simp only [chQ, List.getElem?_eq_getElem hi, chB, Bool.or_eq_true, eqI_t] at h
  have key : ∀ {x s : Int}, parentOk (ps.take i) x s ps[i].born = true → x = (p : Int) → ps[p].born < ps[i].born := fun {x s} h e => by
    unfold parentOk at h
    simp only [Bool.or_eq_true, eqI_t, Bool.and_eq_true, leI_t] at h
    rcases h with h | ⟨h0, h1⟩
    · omega
    · split at h1
      · cases h1
      · rename_i q hq
        obtain ⟨hl, e2⟩ := List.getElem?_eq_some_iff.1 hq
        simp only [Bool.and_eq_true, eqI_t] at h1
        rw [List.getElem_take] at e2
        have : x.toNat = p := by omega
        subst this
        have := h1.2.1
        rw [ltI_t, ← e2] at this
        exact this
  rcases h with h | h
  · exact key p1 h
  · exact key p2 h
theorem late_none {ps : List Per} {us : List Uni} (hf : famOk ps us = true) (x : Cus) (y : Int) : ∀ (d p : Nat), ps.length ≤ p + d → ∀ (hp : p < ps.length), y < ps[p].born → desN ps x y p = []
  | 0, p, h, hp, hy => by omega
  | d + 1, p, h, hp, hy => by
    rw [desN_eq (fam_pi hf)]
    rw [List.flatMap_eq_nil_iff]
    intro c hc
    obtain ⟨hcn, hpc, hch⟩ := ordL_mem (fam_pi hf) hc
    have hb := child_late hf hcn hp hch
    have ha := alv_late hf (y := y) hcn (by omega)
    have hn := late_none hf x y d c (by omega) hcn (by omega)
    unfold brN ownN
    rw [ha, hn]
    cases x.repr <;> rfl
theorem br_late {ps : List Per} {us : List Uni} (hf : famOk ps us = true) (x : Cus) (y : Int) {c : Nat} (hc : c < ps.length) (h : y < ps[c].born) : brN ps x y c = [] := by
  unfold brN ownN
  rw [alv_late hf hc h, late_none hf x y ps.length c (by omega) hc h]
  cases x.repr <;> rfl
theorem fldO_lt {I : Nat → Bool} {n : Nat} {l out : List Nat} (ho : ∀ q ∈ out, q < n) (hl : ∀ q ∈ l, q < n) : ∀ q ∈ fldO I out l, q < n := fun q hq => by
  rcases fldO_mem I l out q hq with h | ⟨h, _⟩
  · exact ho q h
  · exact hl q h
theorem below_h {ps : List Per} {us : List Uni} (hf : famOk ps us = true) (x : Cus) (y : Int) (I : Nat → Bool) : ∀ (d p : Nat), ps.length ≤ p + d → p < ps.length → ∀ out : List Nat, out.Nodup → (∀ q ∈ out, q < ps.length) →
    HSpec env.P 67 [famLV ps us, x.lv, .int .i64 (p : Int), .int .i64 y, .hs 0 ps.length, .hs 1 (out.map natLV).length] [.arr 4 1 (mkL ps.length (seenB I out)), .arr 3 1 (out.map natLV)]
      (.hs 2 ((fldO I out (desN ps x y p)).map natLV).length) [.arr 4 1 (mkL ps.length (seenB I (fldO I out (desN ps x y p)))), .dead, .arr 3 1 ((fldO I out (desN ps x y p)).map natLV)]
  | 0, p, h, hp, out, hnd, hlt => by omega
  | d + 1, p, h, hp, out, hnd, hlt => by
    refine HSpec_of_code (E := env.x [67] 2) env_ok.x (fn := Try.f67) Try.func67 rfl Try.call67 _ _ _ _ ?_
    have h40 := fam_40 hf
    have hO : FSpec env.P 58 [famLV ps us, x.lv, .int .i64 (p : Int)] (.own 3 1 ((ordL ps x (p : Int)).map natLV)) := by
      rw [← chl_ord hf x (p : Int)]
      exact FSpec_of_HSpec (l10Children_h ps us x (p : Int) h40) (by simp [exW])
    have hLm : ∀ c ∈ ordL ps x (p : Int), p < c ∧ c < ps.length := fun c hc => ⟨(ordL_mem (fam_pi hf) hc).2.1, (ordL_mem (fam_pi hf) hc).1⟩
    have hLl := ordL_len ps x (p : Int)
    rw [desN_eq (fam_pi hf) x y p, ← stB_fold]
    generalize ordL ps x (p : Int) = L at hLm hLl hO
    have hN := nats_len L
    have hml : ∀ M, (mkL ps.length M).length = ps.length := mkL_len ps.length
    have hnl : ∀ l : List Nat, (l.map natLV).length = l.length := nats_len
    have hnd : ∀ l, (fldO I out l).Nodup := fun l => fldO_nodup I l out hnd
    have hsl : ∀ k, k ≤ L.length → ∀ q ∈ (L.take k).foldl (stB ps x y I) out, q < ps.length := fun k hk => by
      rw [stB_fold]
      refine fldO_lt hlt fun q hq => ?_
      obtain ⟨c, hc, hq⟩ := List.mem_flatMap.1 hq
      have hcL := hLm c (List.mem_of_mem_take hc)
      unfold brN ownN at hq
      rcases List.mem_append.1 hq with hq | hq
      · split at hq <;> simp at hq
        omega
      · split at hq
        · exact (desN_mem (fam_pi hf) x y ps.length c (by omega) q hq).2.1
        · simp at hq
    have hsn : ∀ k, ((L.take k).foldl (stB ps x y I) out).Nodup := fun k => by rw [stB_fold]; exact hnd _
    unfold famLV Cus.lv at hO ⊢
    ((repeat ((conv => whnf); first | refine brT ?_ | refine brF ?_)); conv => whnf)
    refine ⟨_, hO, ?_⟩
    ((repeat ((conv => whnf); first | refine brT ?_ | refine brF ?_)); conv => whnf)
    intro _
    rw [hN]
    ((repeat ((conv => whnf); first | refine brT ?_ | refine brF ?_)); conv => whnf)
    refine loop_ruleR (α := Nat) [.old 0, .gone, .old 2, .old 3, .old 1] (fun k => [(21, .int .i64 (k : Int)), (5, .hs 4 (((L.take k).foldl (stB ps x y I) out).map natLV).length)])
      (fun k => [.arr 4 1 (mkL ps.length (seenB I ((L.take k).foldl (stB ps x y I) out))), .dead, .box (famLV ps us), .box x.lv, .arr 3 1 (((L.take k).foldl (stB ps x y I) out).map natLV)]) (fun k => L.length - k) (fun k => k ≤ L.length) 0 (Nat.zero_le _) ?_ ?_
    · refine ⟨?_, ⟨rfl, rfl, rfl, rfl, rfl, rfl, rfl, rfl, trivial⟩, rfl⟩
      ((repeat ((conv => whnf); refine ⟨rfl, rfl, ?_⟩)); trivial)
    intro k hk
    generalize hK : kk _ = KK
    unfold famLV Cus.lv
    ((repeat ((conv => whnf); first | refine brT ?_ | refine brF ?_)); conv => whnf)
    (refine ⟨fun g1 => ?_, fun g1 => ?_⟩ <;> rw [g1])
    · have hlt : k < L.length := by rw [ltI_t] at g1; omega
      have e := step_i hlt (by unfold Go.maxLen; omega)
      obtain ⟨hpc, hcn⟩ := hLm L[k] (List.getElem_mem hlt)
      have hg : (L.map natLV)[k]? = some (.int .i64 (L[k] : Int)) := by rw [List.getElem?_map, List.getElem?_eq_getElem hlt]; rfl
      have hgp : (ps.map Per.lv)[L[k]]? = some ps[L[k]].lv := by simp [hcn]
      have hst : (L.take (k + 1)).foldl (stB ps x y I) out = stB ps x y I ((L.take k).foldl (stB ps x y I) out) L[k] := by
        rw [List.take_succ_eq_append_getElem hlt, List.foldl_append]; rfl
      have hlate : y < ps[L[k]].born → brN ps x y L[k] = [] := fun hh => br_late hf x y hcn hh
      have hal := alive_spec ps us L[k] y hcn
      generalize L[k] = c at hpc hcn hg hgp hst hlate hal
      have hs0 := hsl k hk
      have hs1 := hsl (k + 1) hlt
      have hn0 := hsn k
      generalize hS1 : (L.take (k + 1)).foldl (stB ps x y I) out = R at hst hs1
      have hfin : ∀ Q, Q = R → Q = (L.take (k + 1)).foldl (stB ps x y I) out := fun Q h => h.trans hS1.symm
      generalize hS : (L.take k).foldl (stB ps x y I) out = out0 at hst hs0 hn0
      have h0l : out0.length ≤ ps.length := nodup_lt _ _ hn0 hs0
      have hbo : ∀ (q : Per), (ps.map Per.lv)[c]? = some q.lv → ps[c].lv = q.lv := fun q h => by rw [hgp] at h; exact Option.some.inj h
      generalize ps[c] = q at hgp hlate hbo
      clear hbo
      obtain ⟨nm, sx, fa, mo, bo, di⟩ := q
      unfold famLV at hal
      ((repeat ((conv => whnf); first | refine brT ?_ | refine brF ?_)); conv => whnf)
      refine ⟨k, _, rfl, hg, rfl, ?_⟩
      ((repeat ((conv => whnf); first | refine brT ?_ | refine brF ?_)); conv => whnf)
      refine ⟨c, _, rfl, hgp, rfl, ?_⟩
      ((repeat ((conv => whnf); first | refine brT ?_ | refine brF ?_)); conv => whnf)
      (refine ⟨fun g2 => ?_, fun g2 => ?_⟩ <;> rw [g2])
      · have e5 : R = out0 := by
          rw [hst]; unfold stB
          rw [hlate (by rw [ltI_t] at g2; exact g2)]; rfl
        ((repeat ((conv => whnf); first | refine brT ?_ | refine brF ?_)); conv => whnf)
        have e7 := hfin out0 e5.symm
        subst hK
        have e8 : LV.hs 4 ((out0).map natLV).length = LV.hs 4 (((L.take (k + 1)).foldl (stB ps x y I) out).map natLV).length := by rw [← e7]
        refine round_endR [.old 0, .gone, .old 2, .old 3, .old 4] (k + 1) hlt (by omega) ⟨?_, ⟨rfl, congrArg (fun o => Blk.arr 4 1 (mkL ps.length (seenB I o))) e7, rfl, rfl, rfl, rfl, rfl, congrArg (fun o : List Nat => Blk.arr 3 1 (o.map natLV)) e7, trivial⟩, rfl⟩
        repeat ((conv => whnf); first | refine ⟨rfl, e, ?_⟩ | refine ⟨rfl, e8, ?_⟩ | refine ⟨rfl, rfl, ?_⟩)
        trivial
      ((repeat ((conv => whnf); first | refine brT ?_ | refine brF ?_)); conv => whnf)
      refine ⟨_, hal, ?_⟩
      have hbr : brN ps x y c = (match alv ps y c with | true => [c] | false => []) ++ (match alv ps y c || x.repr with | true => desN ps x y c | false => []) := rfl
      generalize alv ps y c = A at hal hbr
      cases A
      · ((repeat ((conv => whnf); first | refine brT ?_ | refine brF ?_)); conv => whnf)
        (refine ⟨fun g5 => ?_, fun g5 => ?_⟩ <;> rw [g5])
        · have hIH := below_h hf x y I d c (by omega) hcn out0 hn0 hs0
          unfold famLV Cus.lv at hIH
          rw [g5] at hIH
          have e5 : R = fldO I out0 (desN ps x y c) := by rw [hst]; unfold stB; rw [hbr, g5]; rfl
          have e7 := hfin _ e5.symm
          ((repeat ((conv => whnf); first | refine brT ?_ | refine brF ?_)); conv => whnf)
          refine ⟨[0, 4], _, _, _, _, hIH, rfl, rfl, rfl, trivial, ?_⟩
          ((repeat ((conv => whnf); first | refine brT ?_ | refine brF ?_)); conv => whnf)
          subst hK
          have e8 : LV.hs 4 ((fldO I out0 (desN ps x y c)).map natLV).length = LV.hs 4 (((L.take (k + 1)).foldl (stB ps x y I) out).map natLV).length := by rw [← e7]
          refine round_endR [.old 0, .gone, .old 2, .old 3, .old 5] (k + 1) hlt (by omega) ⟨?_, ⟨rfl, congrArg (fun o => Blk.arr 4 1 (mkL ps.length (seenB I o))) e7, rfl, rfl, rfl, rfl, rfl, congrArg (fun o : List Nat => Blk.arr 3 1 (o.map natLV)) e7, trivial⟩, rfl⟩
          repeat ((conv => whnf); first | refine ⟨rfl, e, ?_⟩ | refine ⟨rfl, e8, ?_⟩ | refine ⟨rfl, rfl, ?_⟩)
          trivial
        · have e5 : R = out0 := by rw [hst]; unfold stB; rw [hbr, g5]; rfl
          have e7 := hfin _ e5.symm
          ((repeat ((conv => whnf); first | refine brT ?_ | refine brF ?_)); conv => whnf)
          subst hK
          have e8 : LV.hs 4 ((out0).map natLV).length = LV.hs 4 (((L.take (k + 1)).foldl (stB ps x y I) out).map natLV).length := by rw [← e7]
          refine round_endR [.old 0, .gone, .old 2, .old 3, .old 4] (k + 1) hlt (by omega) ⟨?_, ⟨rfl, congrArg (fun o => Blk.arr 4 1 (mkL ps.length (seenB I o))) e7, rfl, rfl, rfl, rfl, rfl, congrArg (fun o : List Nat => Blk.arr 3 1 (o.map natLV)) e7, trivial⟩, rfl⟩
          repeat ((conv => whnf); first | refine ⟨rfl, e, ?_⟩ | refine ⟨rfl, e8, ?_⟩ | refine ⟨rfl, rfl, ?_⟩)
          trivial
      · ((repeat ((conv => whnf); first | refine brT ?_ | refine brF ?_)); conv => whnf)
        refine ⟨(hml _).symm, rfl, c, rfl, by rw [hml]; exact hcn, ?_⟩
        ((repeat ((conv => whnf); first | refine brT ?_ | refine brF ?_)); conv => whnf)
        refine ⟨(hml _).symm, by simp, _, getP1 (mkL_get hcn), rfl, ?_⟩
        ((repeat ((conv => whnf); first | refine brT ?_ | refine brF ?_)); conv => whnf)
        cases hsc : seenB I out0 c
        · rw [show notB false = true by simp [notB]]
          ((repeat ((conv => whnf); first | refine brT ?_ | refine brF ?_)); conv => whnf)
          refine ⟨(hml _).symm, rfl, c, rfl, by rw [hml]; exact hcn, ?_⟩
          ((repeat ((conv => whnf); first | refine brT ?_ | refine brF ?_)); conv => whnf)
          have hse : (mkL ps.length (seenB I out0)).set c (.bool true) = mkL ps.length (seenB I (out0 ++ [c])) := mkL_set fun j _ => by
            unfold seenB
            rw [List.contains_append]
            by_cases e : j = c
            · subst e; simp
            · simp [e]
          refine ⟨(hml _).symm, c, [], _, rfl, getP1 (mkL_get hcn), rfl, rfl, rfl, mkL ps.length (seenB I (out0 ++ [c])), by rw [mkL_get hcn]; exact hse, ?_⟩
          have e9 : out0.map natLV ++ [LV.int .i64 (c : Int)] = (out0 ++ [c]).map natLV := by rw [List.map_append]; rfl
          have hcI : c ∉ out0 ∧ I c = false := by
            unfold seenB at hsc
            rw [Bool.or_eq_false_iff] at hsc
            exact ⟨by simpa using hsc.2, hsc.1⟩
          have hn1 : (out0 ++ [c]).Nodup := by
            rw [List.nodup_append]
            refine ⟨hn0, by simp, fun a ha b hb => ?_⟩
            simp at hb; subst hb
            intro e2; subst e2; exact hcI.1 ha
          have hl1 : ∀ q ∈ out0 ++ [c], q < ps.length := fun q hq => by
            rcases List.mem_append.1 hq with h | h
            · exact hs0 q h
            · simp at h; omega
          have h1l : (out0 ++ [c]).length ≤ ps.length := nodup_lt _ _ hn1 hl1
          ((repeat ((conv => whnf); first | refine brT ?_ | refine brF ?_)); conv => whnf)
          refine ⟨rfl, rfl, ?_, ?_, ?_⟩
          · rw [e9, hnl]; unfold Go.maxLen; omega
          · rw [e9, hnl]; show (out0 ++ [c]).length * 8 ≤ _; omega
          rw [e9]
          have hIH := below_h hf x y I d c (by omega) hcn (out0 ++ [c]) hn1 hl1
          unfold famLV Cus.lv at hIH
          have e5 : R = fldO I (out0 ++ [c]) (desN ps x y c) := by
            rw [hst]; unfold stB; rw [hbr]
            simp only [Bool.true_or]
            rw [fldO_app]
            congr 1
            show stpO I out0 c = out0 ++ [c]
            unfold stpO
            rw [show (I c || out0.contains c) = false from hsc]
          have e7 := hfin _ e5.symm
          ((repeat ((conv => whnf); first | refine brT ?_ | refine brF ?_)); conv => whnf)
          refine ⟨[0, 6], _, _, _, _, hIH, rfl, rfl, rfl, trivial, ?_⟩
          ((repeat ((conv => whnf); first | refine brT ?_ | refine brF ?_)); conv => whnf)
          subst hK
          have e8 : LV.hs 4 ((fldO I (out0 ++ [c]) (desN ps x y c)).map natLV).length = LV.hs 4 (((L.take (k + 1)).foldl (stB ps x y I) out).map natLV).length := by rw [← e7]
          refine round_endR [.old 0, .gone, .old 2, .old 3, .old 7] (k + 1) hlt (by omega) ⟨?_, ⟨rfl, congrArg (fun o => Blk.arr 4 1 (mkL ps.length (seenB I o))) e7, rfl, rfl, rfl, rfl, rfl, congrArg (fun o : List Nat => Blk.arr 3 1 (o.map natLV)) e7, trivial⟩, rfl⟩
          repeat ((conv => whnf); first | refine ⟨rfl, e, ?_⟩ | refine ⟨rfl, e8, ?_⟩ | refine ⟨rfl, rfl, ?_⟩)
          trivial
        · rw [show notB true = false by simp [notB]]
          have hIH := below_h hf x y I d c (by omega) hcn out0 hn0 hs0
          unfold famLV Cus.lv at hIH
          have e5 : R = fldO I out0 (desN ps x y c) := by
            rw [hst]; unfold stB; rw [hbr]
            simp only [Bool.true_or]
            rw [fldO_app]
            congr 1
            show stpO I out0 c = out0
            unfold stpO
            rw [show (I c || out0.contains c) = true from hsc]
          have e7 := hfin _ e5.symm
          ((repeat ((conv => whnf); first | refine brT ?_ | refine brF ?_)); conv => whnf)
          refine ⟨[0, 4], _, _, _, _, hIH, rfl, rfl, rfl, trivial, ?_⟩
          ((repeat ((conv => whnf); first | refine brT ?_ | refine brF ?_)); conv => whnf)
          subst hK
          have e8 : LV.hs 4 ((fldO I out0 (desN ps x y c)).map natLV).length = LV.hs 4 (((L.take (k + 1)).foldl (stB ps x y I) out).map natLV).length := by rw [← e7]
          refine round_endR [.old 0, .gone, .old 2, .old 3, .old 5] (k + 1) hlt (by omega) ⟨?_, ⟨rfl, congrArg (fun o => Blk.arr 4 1 (mkL ps.length (seenB I o))) e7, rfl, rfl, rfl, rfl, rfl, congrArg (fun o : List Nat => Blk.arr 3 1 (o.map natLV)) e7, trivial⟩, rfl⟩
          repeat ((conv => whnf); first | refine ⟨rfl, e, ?_⟩ | refine ⟨rfl, e8, ?_⟩ | refine ⟨rfl, rfl, ?_⟩)
          trivial
    · have h4 : k = L.length := by rw [ltI_f] at g1; omega
      subst h4
      subst hK
      rw [List.take_length]
      ((repeat ((conv => whnf); first | refine brT ?_ | refine brF ?_)); conv => whnf)
      exact ⟨[.hs 2 ((L.foldl (stB ps x y I) out).map natLV).length], rfl, rfl, .inr ⟨[.old 0, .gone, .old 4], ⟨rfl, rfl, trivial⟩, ⟨rfl, rfl, rfl, rfl, trivial⟩, rfl⟩⟩
end Go.Proofs.Ytbiagkccgijdlaa


namespace Go.Proofs.Ytbiagkccgijdlaa
open Go.Lg Go.Pm
set_option maxHeartbeats 3200000
set_option maxRecDepth 10000
set_option linter.unusedVariables false
set_option linter.unusedSimpArgs false

theorem bitsP_none (n : Nat) : bitsP n (fun _ => false) = 0 := by
  induction n with
  | zero => rfl
  | succ n ih => simp [bitsP, ih]
theorem mkL_none (n : Nat) : mkL n (seenB (fun _ => false) []) = List.replicate n (.bool false) := by
  apply List.ext_getElem (by simp [mkL])
  intro i h1 h2
  simp [mkL, seenB, bLV]
def noI : Nat → Bool := fun _ => false
end Go.Proofs.Ytbiagkccgijdlaa


namespace Go.Proofs.Ytbiagkccgijdlaa
open Go.Lg Go.Pm
set_option maxHeartbeats 3200000
set_option maxRecDepth 10000
set_option linter.unusedVariables false
set_option linter.unusedSimpArgs false

/-! ### The way up -/
def nxtP (pr : Int) (q : Per) : Int := match eqI pr 3 with
  | true => q.father
  | false => match eqI pr 4 || eqI q.father (-1) with
    | true => q.mother
    | false => q.father
def nxt (ps : List Per) (pr : Int) (q : Int) : Int := match ps[q.toNat]? with | some x => nxtP pr x | none => -1
theorem nxt_lt {ps : List Per} (hp : parsIn ps) {pr q : Int} (h0 : 0 ≤ q) (hq : q.toNat < ps.length) : -1 ≤ nxt ps pr q ∧ nxt ps pr q < q := by
  obtain ⟨h1, h2⟩ := hp q.toNat hq
  simp only [nxt, List.getElem?_eq_getElem hq, nxtP]
  unfold parIn at h1 h2
  cases eqI pr 3
  · cases eqI pr 4 || eqI ps[q.toNat].father (-1) <;> simp only <;> omega
  · simp only; omega
def upI (ps : List Per) (x : Cus) (y : Int) : Nat → Int → (Nat → Bool) × List Nat → (Nat → Bool) × List Nat
  | 0, _, S => S
  | d + 1, q, S => match leI 0 q with | true => upI ps x y d (nxt ps x.prefer q) (addI ps x y ps.length q.toNat S) | false => S
def upwO (ps : List Per) (x : Cus) (y : Int) (I : Nat → Bool) : Nat → Int → List Nat → List Nat
  | 0, _, out => out
  | d + 1, q, out => match leI 0 q with | true => upwO ps x y I d (nxt ps x.prefer q) (fldO I out (desN ps x y q.toNat)) | false => out
structure UpOk (ps : List Per) (x : Cus) (y : Int) (p : Nat) (q : Int) (S : (Nat → Bool) × List Nat) : Prop where
  ok : Ok ps (insP noI p) S
  cl : ∀ m, S.1 m = true → (q < (m : Int) ∧ clo ps x y (insP noI p) S.2 m) ∨ (m = p ∧ q = (p : Int))
theorem UpOk.step {ps : List Per} (hp : parsIn ps) {x : Cus} {y : Int} {p : Nat} {q : Int} {S : (Nat → Bool) × List Nat} (h : UpOk ps x y p q S) (h0 : 0 ≤ q) (hq : q.toNat < ps.length) :
    UpOk ps x y p (nxt ps x.prefer q) (addI ps x y ps.length q.toNat S) ∧ (addI ps x y ps.length q.toNat S).2 = fldO (insP noI p) S.2 (desN ps x y q.toNat) := by
  have r := addI_ok hp x y (insP noI p) ps.length q.toNat (by omega) S h.ok fun m hm hqm => by
    rcases h.cl m hm with ⟨_, h⟩ | ⟨rfl, h⟩
    · exact h
    · omega
  have hn := (nxt_lt hp (pr := x.prefer) h0 hq).2
  refine ⟨⟨r.ok, fun m hm => .inl ?_⟩, r.out⟩
  rcases r.new m hm with hs | hs
  · rcases h.cl m hs with ⟨h1, h2⟩ | ⟨rfl, h1⟩
    · refine ⟨by omega, ?_⟩
      rw [r.out]; exact clo_mono h2
    · refine ⟨by omega, ?_⟩
      rw [r.out]
      intro z hz
      unfold brN ownN at hz
      rcases List.mem_append.1 hz with hz | hz
      · split at hz <;> simp at hz
        subst hz
        exact .inl (by simp [insP])
      · split at hz
        · rw [show q.toNat = m by omega]
          exact fldO_in _ _ _ z hz
        · simp at hz
  · exact ⟨by omega, r.cl m hm hs⟩
theorem up_eq {ps : List Per} (hp : parsIn ps) (x : Cus) (y : Int) (p : Nat) : ∀ (d : Nat) (q : Int) (S : (Nat → Bool) × List Nat), q < ps.length → UpOk ps x y p q S → (upI ps x y d q S).2 = upwO ps x y (insP noI p) d q S.2
  | 0, q, S, _, h => rfl
  | d + 1, q, S, hq, h => by
    unfold upI upwO
    cases e : leI 0 q
    · rfl
    · rw [leI_t] at e
      obtain ⟨h1, h2⟩ := h.step hp e (by omega)
      have hn := (nxt_lt hp (pr := x.prefer) e (by omega)).2
      simp only
      rw [up_eq hp x y p d _ _ (by omega) h1, h2]
theorem UpOk.start {ps : List Per} (x : Cus) (y : Int) (p : Nat) : UpOk ps x y p (p : Int) (insP noI p, []) :=
  ⟨⟨fun q h => h, fun q h => by simp at h, List.nodup_nil, fun q h => by simp at h⟩, fun m hm => .inr (by
    simp only [insP] at hm
    split at hm
    · rename_i e; exact ⟨e, rfl⟩
    · cases hm)⟩
theorem upwO_ok {ps : List Per} (hp : parsIn ps) (x : Cus) (y : Int) (I : Nat → Bool) : ∀ (d : Nat) (q : Int) (out : List Nat), q < ps.length → out.Nodup → (∀ z ∈ out, z < ps.length) → (upwO ps x y I d q out).Nodup ∧ ∀ z ∈ upwO ps x y I d q out, z < ps.length
  | 0, q, out, _, h1, h2 => ⟨h1, h2⟩
  | d + 1, q, out, hq, h1, h2 => by
    unfold upwO
    cases e : leI 0 q
    · exact ⟨h1, h2⟩
    · rw [leI_t] at e
      have hn := (nxt_lt hp (pr := x.prefer) e (by omega)).2
      exact upwO_ok hp x y I d _ _ (by omega) (fldO_nodup I _ _ h1) (fldO_lt h2 fun z hz => (desN_mem hp x y ps.length q.toNat (by omega) z hz).2.1)

/-! ### Sets of numbers -/
theorem add_box (s : Nat) (b : Int) (hs : s < 2 ^ 64) (h0 : 0 ≤ b) (h1 : b < 64) : HSpec env.P 104 [.hp 0 0 [], .int .i64 b] [.box (uLV s)] (.tup []) [.box (uLV (s ||| 2 ^ b.toNat))] := by
  refine HSpec_of_code (E := env.x [] 1) env_ok.x (fn := Try.f104) Try.func104 rfl Try.call104 _ _ _ _ ?_
  ((repeat ((conv => whnf); first | refine brT ?_ | refine brF ?_)); conv => whnf)
  refine ⟨true, by kernel_rfl, ?_⟩
  ((repeat ((conv => whnf); first | refine brT ?_ | refine brF ?_)); conv => whnf)
  refine ⟨h0, ?_⟩
  ((repeat ((conv => whnf); first | refine brT ?_ | refine brF ?_)); conv => whnf)
  have e : LV.int .u64 (Go.Lg.orI .u64 (s : Int) (shlI .u64 1 b)) = uLV (s ||| 2 ^ b.toNat) := by rw [shlI_one h0 h1, orI_nat hs (two_lt (by omega))]; rfl
  exact ⟨[], rfl, rfl, .inl ⟨trivial, ⟨congrArg Blk.box e, trivial⟩, rfl, rfl⟩⟩
theorem setOf_spec (row : List Int) (hr : inSize row) (hm : row.length ≤ Go.maxLen) : FSpec env.P 105 [.sl (row.map intLV)] (uLV (setN row)) := by
  refine FSpec_of_code (E := env.x [104] 0) env_ok.x (fn := Try.f105) Try.func105 rfl Try.call105 _ _ ?_
  ((repeat ((conv => whnf); first | refine brT ?_ | refine brF ?_)); conv => whnf)
  intro _
  rw [List.length_map]
  ((repeat ((conv => whnf); first | refine brT ?_ | refine brF ?_)); conv => whnf)
  refine loop_rule (α := Nat) (fun k => [(8, .int .i64 (k : Int))]) (fun k => [.box (uLV (setFrom 0 (row.take k)))]) (fun k => row.length - k) (fun k => k ≤ row.length) 0 (Nat.zero_le _) ?_ ?_
  · refine ⟨?_, ⟨rfl, trivial⟩, rfl, rfl⟩
    ((repeat ((conv => whnf); refine ⟨rfl, ?_⟩)); trivial)
  rintro k hk
  ((repeat ((conv => whnf); first | refine brT ?_ | refine brF ?_)); conv => whnf)
  (refine ⟨fun h1 => ?_, fun h1 => ?_⟩ <;> rw [h1])
  · have hlt : k < row.length := by rw [ltI_t] at h1; omega
    have hb := hr row[k] (List.getElem_mem hlt)
    have e := step_i hlt hm
    have hs : setFrom 0 (row.take k) < 2 ^ 64 := setFrom_lt _ _ (by decide) fun x hx => hr x (List.mem_of_mem_take hx)
    have es : setFrom 0 (row.take (k + 1)) = setFrom 0 (row.take k) ||| 2 ^ row[k].toNat := by
      rw [List.take_succ_eq_append_getElem hlt]
      generalize row.take k = l
      generalize (0 : Nat) = z
      induction l generalizing z with
      | nil => rfl
      | cons y ys ih => simp only [List.cons_append, setFrom]; exact ih _
    ((repeat ((conv => whnf); first | refine brT ?_ | refine brF ?_)); conv => whnf)
    refine ⟨k, intLV row[k], rfl, by simp [hlt], rfl, ?_⟩
    ((repeat ((conv => whnf); first | refine brT ?_ | refine brF ?_)); conv => whnf)
    refine ⟨[0], _, _, _, _, add_box _ row[k] hs hb.1 (by omega), rfl, rfl, rfl, trivial, ?_⟩
    ((repeat ((conv => whnf); first | refine brT ?_ | refine brF ?_)); conv => whnf)
    refine round_end (k + 1) hlt (by omega) ⟨?_, ⟨congrArg (fun s => Blk.box (uLV s)) es.symm, trivial⟩, rfl, rfl⟩
    ((repeat ((conv => whnf); first | refine ⟨e, ?_⟩ | refine ⟨rfl, ?_⟩)); trivial)
  · have h3 : k = row.length := by rw [ltI_f] at h1; omega
    subst h3
    ((repeat ((conv => whnf); first | refine brT ?_ | refine brF ?_)); conv => whnf)
    exact ⟨rfl, by rw [List.take_length]; rfl, List.nodup_nil⟩
theorem setOne {n p : Nat} (hp : p < n) : setN [(p : Int)] = bitsP n (insP noI p) := by
  show 0 ||| 2 ^ ((p : Int)).toNat = _
  rw [show ((p : Int)).toNat = p from rfl, ← bitsP_none n, bitsP_add hp]
  rfl
theorem nextUp_spec (q : Per) (pr : Int) : FSpec env.P 106 [q.lv, .int .i64 pr] (.int .i64 (nxtP pr q)) := by
  obtain ⟨nm, sx, fa, mo, bo, di⟩ := q
  refine FSpec_of_code env_ok (fn := Try.f106) Try.func106 rfl Try.call106 _ _ ?_
  unfold nxtP
  ((repeat' (((repeat ((conv => whnf); first | refine brT ?_ | refine brF ?_)); conv => whnf); first | (refine And.intro ?_ ?_ <;> (intro h; rw [h]; revert h; intro _)) | (refine Exists.intro true (And.intro (a := drawB _ _ = true) (by kernel_rfl) ?_)) | (refine Exists.intro _ (And.intro () ?_)))); all_goals ((repeat ((conv => whnf); first | refine brT ?_ | refine brF ?_)); conv => whnf))
  all_goals exact ⟨rfl, by simp_all, List.nodup_nil⟩
theorem next_spec (ps : List Per) (us : List Uni) (x : Cus) (q : Nat) (hp : parsIn ps) (hq : q < ps.length) : FSpec env.P 69 [famLV ps us, x.lv, .int .i64 (q : Int)] (.int .i64 (nxt ps x.prefer (q : Int))) := by
  have hg : (ps.map Per.lv)[q]? = some ps[q].lv := by simp [hq]
  have hn : nxt ps x.prefer (q : Int) = nxtP x.prefer ps[q] := by simp [nxt, hq]
  have hfa := (hp q hq).1
  rw [hn]
  generalize ps[q] = z at hg hfa
  obtain ⟨nm, sx, fa, mo, bo, di⟩ := z
  obtain ⟨pr, yo, re⟩ := x
  have hlt : ltI fa 0 = eqI fa (-1) := by
    unfold parIn at hfa
    simp only at hfa
    rw [Bool.eq_iff_iff, ltI_t, eqI_t]
    omega
  refine FSpec_of_code env_ok (fn := Try.f69) Try.func69 rfl Try.call69 _ _ ?_
  unfold nxtP
  ((repeat ((conv => whnf); first | refine brT ?_ | refine brF ?_)); conv => whnf)
  refine ⟨q, _, rfl, hg, rfl, ?_⟩
  rw [← hlt]
  ((repeat' (((repeat ((conv => whnf); first | refine brT ?_ | refine brF ?_)); conv => whnf); first | (refine And.intro ?_ ?_ <;> (intro h; rw [h]; revert h; intro _)) | (refine Exists.intro true (And.intro (a := drawB _ _ = true) (by kernel_rfl) ?_)) | (refine Exists.intro _ (And.intro () ?_)))); all_goals ((repeat ((conv => whnf); first | refine brT ?_ | refine brF ?_)); conv => whnf))
  all_goals exact ⟨rfl, by (simp_all [notB, eqI_d]) <;> (split <;> rfl), List.nodup_nil⟩
end Go.Proofs.Ytbiagkccgijdlaa


namespace Go.Proofs.Ytbiagkccgijdlaa
open Go.Lg Go.Pm
set_option maxHeartbeats 3200000
set_option maxRecDepth 10000
set_option linter.unusedVariables false
set_option linter.unusedSimpArgs false

def sucW (ps : List Per) (us : List Uni) (x : Cus) (p y : Int) : List Nat := match cusOk x with
  | false => []
  | true => match hasP ps us p with
    | false => []
    | true => upwO ps x y (insP noI p.toNat) (ps.length + 1) p []
theorem suc_len {ps : List Per} (hp : parsIn ps) (x : Cus) (y : Int) (I : Nat → Bool) (d : Nat) {p : Int} (pl : p < ps.length) : (upwO ps x y I d p []).length ≤ ps.length := by
  obtain ⟨h1, h2⟩ := upwO_ok hp x y I d p [] pl List.nodup_nil (fun z hz => by simp at hz)
  exact nodup_lt _ _ h1 h2
theorem sucW_len (ps : List Per) (us : List Uni) (x : Cus) (p y : Int) : (sucW ps us x p y).length ≤ 80 := by
  unfold sucW
  cases cusOk x
  · simp
  · cases h : hasP ps us p
    · simp
    · obtain ⟨p0, pl, hl, hp⟩ := hasP_in h
      have := suc_len hp x y (insP noI p.toNat) (ps.length + 1) (p := p) (by omega)
      simp only
      omega
theorem succ_h {ps : List Per} {us : List Uni} (hf : famOk ps us = true) (x : Cus) (p : Nat) (y : Int) (hpl : p < ps.length) :
    HSpec env.P 70 [famLV ps us, x.lv, .int .i64 (p : Int), .int .i64 y] [] (.hs 0 ((upwO ps x y (insP noI p) (ps.length + 1) (p : Int) []).map natLV).length) [.arr 3 1 ((upwO ps x y (insP noI p) (ps.length + 1) (p : Int) []).map natLV)] := by
  refine HSpec_of_code (E := { env.x [68] 0 with tb := [88] }) (env_ok.x.tbs _) (fn := Try.f70) Try.func70 rfl Try.call70 _ _ _ _ ?_
  have h40 := fam_40 hf
  have hpar := fam_pi hf
  have hS := setOf_spec [(p : Int)] (fun b hb => by simp at hb; omega) (by show 1 ≤ _; unfold Go.maxLen; omega)
  rw [setOne hpl] at hS
  rw [← up_eq hpar x y p (ps.length + 1) (p : Int) (insP noI p, []) (by omega) (UpOk.start x y p)]
  have hU : UpOk ps x y p (p : Int) (insP noI p, []) := UpOk.start x y p
  generalize hR : upI ps x y (ps.length + 1) (p : Int) (insP noI p, []) = R
  unfold famLV Cus.lv uLV at *
  ((repeat ((conv => whnf); first | refine brT ?_ | refine brF ?_)); conv => whnf)
  refine ⟨false, 0, 0, 1, [0, 1, 2, 3], (.alt 4 (.alt 5 (.alt 6 (.one 7 (.one 8 .done)) (.one 7 (.one 6 (.one 8 .done)))) (.one 7 (.one 5 (.one 6 (.one 8 .done))))) (.one 7 (.one 4 (.one 5 (.one 6 (.one 8 .done)))))), by kernel_rfl, by kernel_rfl, ?_⟩
  ((repeat ((conv => whnf); first | refine brT ?_ | refine brF ?_)); conv => whnf)
  apply Exists.intro
  apply Exists.intro
  refine And.intro ?_ ?_
  · ((repeat ((conv => whnf); first | refine brT ?_ | refine brF ?_)); conv => whnf)
    refine And.intro ?_ ?_
    · ((repeat ((conv => whnf); first | refine brT ?_ | refine brF ?_)); conv => whnf)
      refine And.intro ?_ ?_
      · ((repeat ((conv => whnf); first | refine brT ?_ | refine brF ?_)); conv => whnf)
        refine ⟨rfl, ?_⟩
        ((repeat ((conv => whnf); first | refine brT ?_ | refine brF ?_)); conv => whnf)
        refine ⟨_, hS, ?_⟩
        ((repeat ((conv => whnf); first | refine brT ?_ | refine brF ?_)); conv => whnf)
        refine And.intro ?_ ?_
        · ((repeat ((conv => whnf); first | refine brT ?_ | refine brF ?_)); conv => whnf)
          refine Weak.idn ?_ ?_ rfl
          · ((repeat ((conv => whnf); refine ⟨rfl, ?_⟩)); trivial)
          · exact ⟨rfl, rfl, rfl, rfl, trivial⟩
        · ((repeat ((conv => whnf); first | refine brT ?_ | refine brF ?_)); conv => whnf)
          refine .inr ⟨[.old 0, .old 1, .old 2, .old 3], ?_, ⟨rfl, rfl, rfl, rfl, rfl, rfl, rfl, rfl, trivial⟩, rfl⟩
          ((repeat ((conv => whnf); refine ⟨rfl, rfl, ?_⟩)); trivial)
      · ((repeat ((conv => whnf); first | refine brT ?_ | refine brF ?_)); conv => whnf)
        refine ⟨rfl, ?_⟩
        ((repeat ((conv => whnf); first | refine brT ?_ | refine brF ?_)); conv => whnf)
        refine ⟨_, hS, ?_⟩
        ((repeat ((conv => whnf); first | refine brT ?_ | refine brF ?_)); conv => whnf)
        refine .inr ⟨[.old 0, .old 1, .old 2, .old 3], ?_, ⟨rfl, rfl, rfl, rfl, rfl, rfl, rfl, rfl, trivial⟩, rfl⟩
        ((repeat ((conv => whnf); refine ⟨rfl, rfl, ?_⟩)); trivial)
    · ((repeat ((conv => whnf); first | refine brT ?_ | refine brF ?_)); conv => whnf)
      refine ⟨rfl, ?_⟩
      ((repeat ((conv => whnf); first | refine brT ?_ | refine brF ?_)); conv => whnf)
      refine ⟨_, hS, ?_⟩
      ((repeat ((conv => whnf); first | refine brT ?_ | refine brF ?_)); conv => whnf)
      refine .inr ⟨[.old 0, .old 1, .old 3, .old 2], ?_, ⟨rfl, rfl, rfl, rfl, rfl, rfl, rfl, rfl, trivial⟩, rfl⟩
      ((repeat ((conv => whnf); refine ⟨rfl, rfl, ?_⟩)); trivial)
  ((repeat ((conv => whnf); first | refine brT ?_ | refine brF ?_)); conv => whnf)
  refine ⟨rfl, rfl, _, _, _, rfl, rfl, rfl, rfl, ?_⟩
  ((repeat ((conv => whnf); first | refine brT ?_ | refine brF ?_)); conv => whnf)
  refine loop_ruleN (α := Nat × Int × ((Nat → Bool) × List Nat)) [.row 3 [0, 4] 3 1] [.old 0, .old 1, .old 2, .old 3] (fun s => [(10, .int .i64 s.2.1)])
    (fun s => [.box (famLV ps us), .box x.lv, .arr 3 1 [.int .i64 (p : Int)], .tree 88 8 [sucLV ps us x y s.2.2]]) (fun s => s.1)
    (fun s => upI ps x y s.1 s.2.1 s.2.2 = R ∧ UpOk ps x y p s.2.1 s.2.2 ∧ s.2.1 < (s.1 : Int) ∧ -1 ≤ s.2.1 ∧ s.2.1 < (ps.length : Int)) (ps.length + 1, (p : Int), (insP noI p, [])) ⟨hR, hU, by simp only; omega, by simp only; omega, by simp only; omega⟩ ?_ ?_
  · refine ⟨?_, ⟨rfl, rfl, rfl, rfl, rfl, rfl, rfl, rfl, trivial⟩, rfl⟩
    ((repeat ((conv => whnf); refine ⟨rfl, rfl, ?_⟩)); trivial)
  rintro ⟨d, q, S⟩ ⟨i1, i2, i3, i4, i5⟩
  simp only at i1 i2 i3 i4 i5
  generalize hK : kk _ = KK
  unfold famLV Cus.lv
  ((repeat ((conv => whnf); first | refine brT ?_ | refine brF ?_)); conv => whnf)
  cases e0 : eqI q (-1)
  · rw [show notB false = true by simp [notB]]
    rw [eqI_f] at e0
    obtain ⟨m, rfl⟩ : ∃ m : Nat, q = (m : Int) := ⟨q.toNat, by omega⟩
    obtain ⟨d, rfl⟩ : ∃ d' : Nat, d = d' + 1 := ⟨d - 1, by omega⟩
    have hml : m < ps.length := by omega
    obtain ⟨u1, u2⟩ := i2.step hpar (by omega) (by omega)
    have hn := nxt_lt hpar (pr := x.prefer) (q := (m : Int)) (by omega) (by omega)
    have hst : upI ps x y d (nxt ps x.prefer (m : Int)) (addI ps x y ps.length m S) = R := by
      rw [← i1]
      show _ = upI ps x y (d + 1) (m : Int) S
      rw [upI, show leI 0 (m : Int) = true by rw [leI_t]; omega]
      rfl
    have hB := addBelow_h hf x y (insP noI p) ps.length m (by omega) hml S i2.ok fun m' hm hqm => by
      rcases i2.cl m' hm with ⟨_, h⟩ | ⟨rfl, h⟩
      · exact h
      · omega
    have hg : (ps.map Per.lv)[m]? = some ps[m].lv := by simp [hml]
    have hnx : nxt ps x.prefer (m : Int) = nxtP x.prefer ps[m] := by simp [nxt, hml]
    have hN := nextUp_spec ps[m] x.prefer
    rw [← hnx] at hN
    clear hnx
    generalize ps[m] = z at hg hN
    obtain ⟨nm, sx, fa, mo, bo, di⟩ := z
    unfold sucLV famLV Cus.lv uLV at hB ⊢
    ((repeat ((conv => whnf); first | refine brT ?_ | refine brF ?_)); conv => whnf)
    refine ⟨[3], _, _, _, _, hB, rfl, rfl, rfl, trivial, ?_⟩
    ((repeat ((conv => whnf); first | refine brT ?_ | refine brF ?_)); conv => whnf)
    refine ⟨true, by kernel_rfl, ?_⟩
    ((repeat ((conv => whnf); first | refine brT ?_ | refine brF ?_)); conv => whnf)
    refine ⟨m, _, rfl, hg, rfl, ?_⟩
    ((repeat ((conv => whnf); first | refine brT ?_ | refine brF ?_)); conv => whnf)
    refine ⟨_, hN, ?_⟩
    ((repeat ((conv => whnf); first | refine brT ?_ | refine brF ?_)); conv => whnf)
    subst hK
    refine round_endR [.old 0, .old 1, .old 2, .old 3] (d, nxt ps x.prefer (m : Int), addI ps x y ps.length m S) ⟨hst, u1, by simp only; omega, by simp only; omega, by simp only; omega⟩ (by simp only; omega) ⟨?_, ⟨rfl, rfl, rfl, rfl, rfl, rfl, rfl, rfl, trivial⟩, rfl⟩
    ((repeat ((conv => whnf); refine ⟨rfl, rfl, ?_⟩)); trivial)
  · rw [show notB true = false by simp [notB]]
    rw [eqI_t] at e0
    subst e0
    have hS : S = R := by
      rw [← i1]
      cases d with
      | zero => rfl
      | succ d => rw [upI, show leI 0 (-1) = false by rw [leI_f]; omega]
    subst hS
    subst hK
    unfold sucLV famLV Cus.lv uLV
    ((repeat ((conv => whnf); first | refine brT ?_ | refine brF ?_)); conv => whnf)
    refine ⟨rfl, by simp, _, rfl, rfl, by simp, ?_⟩
    ((repeat ((conv => whnf); first | refine brT ?_ | refine brF ?_)); conv => whnf)
    refine ⟨rfl, _, _, rfl, rfl, ?_⟩
    ((repeat ((conv => whnf); first | refine brT ?_ | refine brF ?_)); conv => whnf)
    exact ⟨[.hs 0 (S.2.map natLV).length], rfl, rfl, .inr ⟨[.old 4], ⟨rfl, rfl, trivial⟩, ⟨rfl, rfl, trivial⟩, rfl⟩⟩
end Go.Proofs.Ytbiagkccgijdlaa


namespace Go.Proofs.Ytbiagkccgijdlaa
open Go.Lg Go.Pm
set_option maxHeartbeats 3200000
set_option maxRecDepth 10000
set_option linter.unusedVariables false
set_option linter.unusedSimpArgs false

theorem suc_impl (ps : List Per) (us : List Uni) (x : Cus) (p y : Int) : HSpec env.P 32 [famLV ps us, x.lv, .int .i64 p, .int .i64 y] [] (.hs 0 ((sucW ps us x p y).map natLV).length) [.arr 3 1 ((sucW ps us x p y).map natLV)] := by
  refine HSpec_of_code (E := env.x [70] 0) env_ok.x (fn := Try.f32) Try.func32 rfl Try.call32 _ _ _ _ ?_
  have h1 := cus_impl x
  have hO : hasP ps us p = true → HSpec env.P 70 [famLV ps us, x.lv, .int .i64 p, .int .i64 y] [] (.hs 0 ((upwO ps x y (insP noI p.toNat) (ps.length + 1) p []).map natLV).length) [.arr 3 1 ((upwO ps x y (insP noI p.toNat) (ps.length + 1) p []).map natLV)] := fun h => by
    obtain ⟨p0, pl, hl, _⟩ := hasP_in h
    have hB := succ_h (hasP_lt h).2.2 x p.toNat y pl
    rw [show ((p.toNat : Nat) : Int) = p by omega] at hB
    exact hB
  unfold sucW
  generalize cusOk x = b at h1 ⊢
  generalize upwO ps x y (insP noI p.toNat) (ps.length + 1) p [] = L at hO ⊢
  obtain ⟨pr, yo, re⟩ := x
  ((repeat ((conv => whnf); first | refine brT ?_ | refine brF ?_)); conv => whnf)
  refine ⟨_, h1, ?_⟩
  ((repeat ((conv => whnf); first | refine brT ?_ | refine brF ?_)); conv => whnf)
  cases b
  · rw [show notB false = true by simp [notB]]
    ((repeat ((conv => whnf); first | refine brT ?_ | refine brF ?_)); conv => whnf)
    exact ⟨[.hs 0 0], rfl, rfl, .nl [.tmp 0 [] false 3 1] [.old 2] ⟨⟨rfl, rfl, trivial⟩, ⟨rfl, rfl, trivial⟩, rfl⟩⟩
  rw [show notB true = false by simp [notB]]
  ((repeat ((conv => whnf); first | refine brT ?_ | refine brF ?_)); conv => whnf)
  refine ⟨_, hasPerson_spec ps us p, ?_⟩
  ((repeat ((conv => whnf); first | refine brT ?_ | refine brF ?_)); conv => whnf)
  cases h : hasP ps us p
  · rw [show notB false = true by simp [notB]]
    ((repeat ((conv => whnf); first | refine brT ?_ | refine brF ?_)); conv => whnf)
    exact ⟨[.hs 0 0], rfl, rfl, .nl [.tmp 0 [] false 3 1] [.old 2] ⟨⟨rfl, rfl, trivial⟩, ⟨rfl, rfl, trivial⟩, rfl⟩⟩
  rw [show notB true = false by simp [notB]]
  ((repeat ((conv => whnf); first | refine brT ?_ | refine brF ?_)); conv => whnf)
  refine ⟨[], _, _, _, _, hO h, rfl, rfl, rfl, trivial, ?_⟩
  ((repeat ((conv => whnf); first | refine brT ?_ | refine brF ?_)); conv => whnf)
  exact ⟨[.hs 0 (L.map natLV).length], rfl, rfl, .inr ⟨[.old 2], ⟨rfl, rfl, trivial⟩, ⟨rfl, rfl, trivial⟩, rfl⟩⟩
theorem suc_spec (ps : List Per) (us : List Uni) (x : Cus) (p y : Int) : HSpec env.P 31 [famLV ps us, x.lv, .int .i64 p, .int .i64 y] [] (.hs 0 ((sucW ps us x p y).map natLV).length) [.arr 3 1 ((sucW ps us x p y).map natLV)] := by
  refine HSpec_of_code (E := env.x [67] 0) env_ok.x (fn := Try.f31) Try.func31 rfl Try.call31 _ _ _ _ ?_
  have h1 := cus_spec x
  have hP' : (ps.map Per.lv).length = ps.length := List.length_map ..
  unfold sucW
  generalize cusOk x = b at h1 ⊢
  unfold famLV Cus.lv at *
  ((repeat ((conv => whnf); first | refine brT ?_ | refine brF ?_)); conv => whnf)
  refine ⟨_, h1, ?_⟩
  ((repeat ((conv => whnf); first | refine brT ?_ | refine brF ?_)); conv => whnf)
  cases b
  · rw [show notB false = true by simp [notB]]
    ((repeat ((conv => whnf); first | refine brT ?_ | refine brF ?_)); conv => whnf)
    exact ⟨[.hs 0 0], rfl, rfl, .nl [.tmp 0 [] false 3 1] [.old 2] ⟨⟨rfl, rfl, trivial⟩, ⟨rfl, rfl, trivial⟩, rfl⟩⟩
  rw [show notB true = false by simp [notB]]
  ((repeat ((conv => whnf); first | refine brT ?_ | refine brF ?_)); conv => whnf)
  have hP := l1Has_spec ps us p
  unfold famLV at hP
  refine ⟨_, hP, ?_⟩
  ((repeat ((conv => whnf); first | refine brT ?_ | refine brF ?_)); conv => whnf)
  cases h : hasP ps us p
  · rw [show notB false = true by simp [notB]]
    ((repeat ((conv => whnf); first | refine brT ?_ | refine brF ?_)); conv => whnf)
    exact ⟨[.hs 0 0], rfl, rfl, .nl [.tmp 0 [] false 3 1] [.old 2] ⟨⟨rfl, rfl, trivial⟩, ⟨rfl, rfl, trivial⟩, rfl⟩⟩
  rw [show notB true = false by simp [notB]]
  obtain ⟨p0, pl, h40, hpar⟩ := hasP_in h
  have hf := (hasP_lt h).2.2
  obtain ⟨m, rfl⟩ : ∃ m : Nat, p = (m : Int) := ⟨p.toNat, by omega⟩
  rw [show ((m : Int)).toNat = m from rfl] at pl
  generalize hR : upwO ps x y (insP noI ((m : Int)).toNat) (ps.length + 1) (m : Int) [] = R
  rw [show ((m : Int)).toNat = m from rfl] at hR
  have hs0 : (List.replicate ps.length (LV.bool false)).set m (.bool true) = mkL ps.length (seenB (insP noI m) []) := by
    rw [← mkL_none]
    exact mkL_set fun j _ => by simp [seenB, insP, noI]
  have hrep : (List.replicate ps.length (LV.bool false)).length = ps.length := List.length_replicate
  have hgm : (List.replicate ps.length (LV.bool false))[m]? = some (.bool false) := by simp [pl]
  ((repeat ((conv => whnf); first | refine brT ?_ | refine brF ?_)); conv => whnf)
  intro _
  rw [hP']
  ((repeat ((conv => whnf); first | refine brT ?_ | refine brF ?_)); conv => whnf)
  refine ⟨ps.length, rfl, rfl, by show 1 * ps.length ≤ _; omega, by unfold Go.maxLen; omega, rfl, by decide, ?_⟩
  ((repeat ((conv => whnf); first | refine brT ?_ | refine brF ?_)); conv => whnf)
  refine ⟨hrep.symm, rfl, m, rfl, by omega, ?_⟩
  ((repeat ((conv => whnf); first | refine brT ?_ | refine brF ?_)); conv => whnf)
  refine ⟨hrep.symm, m, [], _, rfl, getP1 hgm, rfl, rfl, rfl, mkL ps.length (seenB (insP noI m) []), by rw [hgm]; exact hs0, ?_⟩
  ((repeat ((conv => whnf); first | refine brT ?_ | refine brF ?_)); conv => whnf)
  refine loop_ruleR (α := Nat × Int × List Nat) [.old 0, .old 1, .old 2, .old 3] (fun s => [(11, .int .i64 s.2.1), (28, .undef), (10, .hs 3 (s.2.2.map natLV).length)])
    (fun s => [.box (famLV ps us), .box x.lv, .arr 4 1 (mkL ps.length (seenB (insP noI m) s.2.2)), .arr 3 1 (s.2.2.map natLV)]) (fun s => s.1)
    (fun s => upwO ps x y (insP noI m) s.1 s.2.1 s.2.2 = R ∧ s.2.2.Nodup ∧ (∀ z ∈ s.2.2, z < ps.length) ∧ s.2.1 < (s.1 : Int) ∧ -1 ≤ s.2.1 ∧ s.2.1 < (ps.length : Int)) (ps.length + 1, (m : Int), []) ⟨hR, List.nodup_nil, fun z hz => by simp at hz, by simp only; omega, by simp only; omega, by simp only; omega⟩ ?_ ?_
  · refine ⟨?_, ⟨rfl, rfl, rfl, rfl, rfl, rfl, rfl, rfl, trivial⟩, rfl⟩
    ((repeat ((conv => whnf); refine ⟨rfl, rfl, ?_⟩)); trivial)
  rintro ⟨d, q, out⟩ ⟨i1, i2, i2', i3, i4, i5⟩
  simp only at i1 i2 i2' i3 i4 i5
  generalize hK : kk _ = KK
  unfold famLV Cus.lv
  ((repeat ((conv => whnf); first | refine brT ?_ | refine brF ?_)); conv => whnf)
  cases e0 : leI 0 q
  · rw [leI_f] at e0
    have hS : out = R := by
      rw [← i1]
      cases d with
      | zero => rfl
      | succ d => rw [upwO, show leI 0 q = false by rw [leI_f]; omega]
    subst hS
    subst hK
    ((repeat ((conv => whnf); first | refine brT ?_ | refine brF ?_)); conv => whnf)
    exact ⟨[.hs 0 (out.map natLV).length], rfl, rfl, .inr ⟨[.old 3], ⟨rfl, rfl, trivial⟩, ⟨rfl, rfl, trivial⟩, rfl⟩⟩
  · rw [leI_t] at e0
    obtain ⟨k, rfl⟩ : ∃ k : Nat, q = (k : Int) := ⟨q.toNat, by omega⟩
    obtain ⟨d, rfl⟩ : ∃ d' : Nat, d = d' + 1 := ⟨d - 1, by omega⟩
    have hkl : k < ps.length := by omega
    have hn := nxt_lt hpar (pr := x.prefer) (q := (k : Int)) (by omega) (by omega)
    have hst : upwO ps x y (insP noI m) d (nxt ps x.prefer (k : Int)) (fldO (insP noI m) out (desN ps x y k)) = R := by
      rw [← i1]
      show _ = upwO ps x y (insP noI m) (d + 1) (k : Int) out
      rw [upwO, show leI 0 (k : Int) = true by rw [leI_t]; omega]
      rfl
    have hB := below_h hf x y (insP noI m) ps.length k (by omega) hkl out i2 i2'
    have hN := next_spec ps us x k hpar hkl
    unfold famLV Cus.lv at hB hN
    ((repeat ((conv => whnf); first | refine brT ?_ | refine brF ?_)); conv => whnf)
    refine ⟨[2, 3], _, _, _, _, hB, rfl, rfl, rfl, trivial, ?_⟩
    ((repeat ((conv => whnf); first | refine brT ?_ | refine brF ?_)); conv => whnf)
    refine ⟨_, hN, ?_⟩
    ((repeat ((conv => whnf); first | refine brT ?_ | refine brF ?_)); conv => whnf)
    subst hK
    refine round_endR [.old 0, .old 1, .old 2, .old 4] (d, nxt ps x.prefer (k : Int), fldO (insP noI m) out (desN ps x y k))
      ⟨hst, fldO_nodup _ _ _ i2, fldO_lt i2' fun z hz => (desN_mem hpar x y ps.length k (by omega) z hz).2.1, by simp only; omega, by simp only; omega, by simp only; omega⟩ (by simp only; omega) ⟨?_, ⟨rfl, rfl, rfl, rfl, rfl, rfl, rfl, rfl, trivial⟩, rfl⟩
    ((repeat ((conv => whnf); refine ⟨rfl, rfl, ?_⟩)); trivial)
end Go.Proofs.Ytbiagkccgijdlaa


namespace Go.Proofs.Ytbiagkccgijdlaa
open Go.Lg Go.Pm
set_option maxHeartbeats 3200000
set_option maxRecDepth 10000
set_option linter.unusedVariables false
set_option linter.unusedSimpArgs false

/-! ### The first of those who succeed -/
def heirA (l : List Nat) : Int := match l with | [] => 0 | q :: _ => (q : Int)
def heirB (l : List Nat) : Bool := match l with | [] => false | _ :: _ => true
theorem heir_impl (ps : List Per) (us : List Uni) (x : Cus) (p y : Int) : FSpec env.P 34 [famLV ps us, x.lv, .int .i64 p, .int .i64 y] (.tup [.int .i64 (heirA (sucW ps us x p y)), .bool (heirB (sucW ps us x p y))]) := by
  have h := nats_f (suc_impl ps us x p y)
  have hl := sucW_len ps us x p y
  generalize sucW ps us x p y = L at h hl ⊢
  obtain ⟨pr, yo, re⟩ := x
  refine FSpec_of_code env_ok (fn := Try.f34) Try.func34 rfl Try.call34 _ _ ?_
  ((repeat ((conv => whnf); first | refine brT ?_ | refine brF ?_)); conv => whnf)
  refine ⟨_, h, ?_⟩
  cases L with
  | nil =>
    ((repeat ((conv => whnf); first | refine brT ?_ | refine brF ?_)); conv => whnf)
    intro _
    ((repeat ((conv => whnf); first | refine brT ?_ | refine brF ?_)); conv => whnf)
    rw [show eqI ((([] : List Nat).map natLV).length : Int) 0 = true from eqI_t.2 rfl]
    ((repeat ((conv => whnf); first | refine brT ?_ | refine brF ?_)); conv => whnf)
    (repeat (first | exact List.nodup_nil | refine ⟨rfl, ?_⟩))
  | cons q L =>
    have e0 : eqI (((q :: L).map natLV).length : Int) 0 = false := by rw [eqI_f, List.length_map, List.length_cons]; omega
    ((repeat ((conv => whnf); first | refine brT ?_ | refine brF ?_)); conv => whnf)
    intro _
    ((repeat ((conv => whnf); first | refine brT ?_ | refine brF ?_)); conv => whnf)
    rw [e0]
    ((repeat ((conv => whnf); first | refine brT ?_ | refine brF ?_)); conv => whnf)
    refine ⟨0, _, rfl, rfl, rfl, ?_⟩
    ((repeat ((conv => whnf); first | refine brT ?_ | refine brF ?_)); conv => whnf)
    (repeat (first | exact List.nodup_nil | refine ⟨rfl, ?_⟩))
theorem heir_spec (ps : List Per) (us : List Uni) (x : Cus) (p y : Int) : FSpec env.P 33 [famLV ps us, x.lv, .int .i64 p, .int .i64 y] (.tup [.int .i64 (heirA (sucW ps us x p y)), .bool (heirB (sucW ps us x p y))]) := by
  have h := nats_f (suc_spec ps us x p y)
  have hl := sucW_len ps us x p y
  generalize sucW ps us x p y = L at h hl ⊢
  obtain ⟨pr, yo, re⟩ := x
  refine FSpec_of_code env_ok (fn := Try.f33) Try.func33 rfl Try.call33 _ _ ?_
  ((repeat ((conv => whnf); first | refine brT ?_ | refine brF ?_)); conv => whnf)
  refine ⟨_, h, ?_⟩
  cases L with
  | nil =>
    ((repeat ((conv => whnf); first | refine brT ?_ | refine brF ?_)); conv => whnf)
    intro _
    ((repeat ((conv => whnf); first | refine brT ?_ | refine brF ?_)); conv => whnf)
    rw [show eqI ((([] : List Nat).map natLV).length : Int) 0 = true from eqI_t.2 rfl]
    ((repeat ((conv => whnf); first | refine brT ?_ | refine brF ?_)); conv => whnf)
    (repeat (first | exact List.nodup_nil | refine ⟨rfl, ?_⟩))
  | cons q L =>
    have e0 : eqI (((q :: L).map natLV).length : Int) 0 = false := by rw [eqI_f, List.length_map, List.length_cons]; omega
    ((repeat ((conv => whnf); first | refine brT ?_ | refine brF ?_)); conv => whnf)
    intro _
    ((repeat ((conv => whnf); first | refine brT ?_ | refine brF ?_)); conv => whnf)
    rw [e0]
    ((repeat ((conv => whnf); first | refine brT ?_ | refine brF ?_)); conv => whnf)
    refine ⟨0, _, rfl, rfl, rfl, ?_⟩
    ((repeat ((conv => whnf); first | refine brT ?_ | refine brF ?_)); conv => whnf)
    (repeat (first | exact List.nodup_nil | refine ⟨rfl, ?_⟩))
theorem law_heirOf (ps : List Per) (us : List Uni) (x : Cus) (p y : Int) (hf : FamOK ps us) : FSpec env.P 9 [famLV ps us, x.lv, .int .i64 p, .int .i64 y] (.bool true) := by
  have hI := heir_impl ps us x p y
  have hS := heir_spec ps us x p y
  have hT := toCus_spec x
  generalize heirA (sucW ps us x p y) = v at hI hS
  generalize heirB (sucW ps us x p y) = b at hI hS
  obtain ⟨pr, yo, re⟩ := x
  refine FSpec_of_code env_ok (fn := Try.f9) Try.func9 rfl Try.call9 _ _ ?_
  ((repeat ((conv => whnf); first | refine brT ?_ | refine brF ?_)); conv => whnf)
  refine ⟨_, szFamily_spec ps us _, ?_⟩
  ((repeat ((conv => whnf); first | refine brT ?_ | refine brF ?_)); conv => whnf)
  (refine ⟨fun h => ?_, fun h => ?_⟩ <;> rw [h])
  · ((repeat ((conv => whnf); first | refine brT ?_ | refine brF ?_)); conv => whnf); exact fin rfl
  rw [ltI_f] at h
  obtain ⟨p1, u1, s1⟩ := szFam_ok (by omega) (by omega) hf h
  ((repeat ((conv => whnf); first | refine brT ?_ | refine brF ?_)); conv => whnf)
  ((repeat' (((repeat ((conv => whnf); first | refine brT ?_ | refine brF ?_)); conv => whnf); first | (refine And.intro ?_ ?_ <;> (intro h; rw [h]; revert h; intro _)) | (refine Exists.intro true (And.intro (a := drawB _ _ = true) (by kernel_rfl) ?_)) | (refine Exists.intro _ (And.intro (toFamily_spec ps us p1 u1) ?_)) | (refine Exists.intro _ (And.intro (hT) ?_)) | (refine Exists.intro _ (And.intro (hS) ?_)) | (refine Exists.intro _ (And.intro (hI) ?_)) | (refine Exists.intro _ (And.intro (eqFamily_spec ps ps us us) ?_)))); all_goals ((repeat ((conv => whnf); first | refine brT ?_ | refine brF ?_)); conv => whnf))
  all_goals (refine fin ?_; simp_all [notB, eqB, eqFam_refl, eqI_refl])
end Go.Proofs.Ytbiagkccgijdlaa


namespace Go.Proofs.Ytbiagkccgijdlaa
open Go.Lg Go.RowKit Go.ChangeShapes Go.WideShapes Go.Deep Go.Joins
set_option linter.unusedVariables false
set_option linter.unusedSimpArgs false
set_option maxRecDepth 100000

theorem list_of {α : Type} {lv : α → LV} {Q : α → Prop} : ∀ (xs : List LV), (∀ x ∈ xs, ∃ p, x = lv p ∧ Q p) → ∃ ps : List α, xs = ps.map lv ∧ ∀ p ∈ ps, Q p
  | [], _ => ⟨[], rfl, by simp⟩
  | x :: xs, h => by
    obtain ⟨p, rfl, hp⟩ := h x (by simp)
    obtain ⟨ps, rfl, hps⟩ := list_of xs fun y hy => h y (by simp [hy])
    exact ⟨p :: ps, rfl, List.forall_mem_cons.2 ⟨hp, hps⟩⟩

section
variable {H : Type} {enc : TypeId × Value → H} {w : World}
end
end Go.Proofs.Ytbiagkccgijdlaa


namespace Go.Proofs.Ytbiagkccgijdlaa
open Go.Lg
set_option maxRecDepth 10000
set_option linter.unusedVariables false
set_option linter.unusedSimpArgs false

/-! ### A family, out of an argument's shape -/
abbrev shPer : Sh := .st [.str, .int .i64, .int .i64, .int .i64, .int .i64, .int .i64]
abbrev shUni : Sh := .st [.int .i64, .int .i64, .int .i64, .int .i64]
abbrev shFam : Sh := .st [.sl (.st [.str, .int .i64, .int .i64, .int .i64, .int .i64, .int .i64]), .sl (.st [.int .i64, .int .i64, .int .i64, .int .i64])]
theorem per_of_sh {x : LV} (h : hasSh shPer x) : ∃ p : Per, x = p.lv ∧ p.name.size ≤ maxLen := by
  simp only [hasSh] at h
  obtain ⟨xs, rfl, h⟩ := h
  match xs, h with
  | [a, b, c, d, e, f], h =>
    simp only [hasShs, hasSh] at h
    obtain ⟨⟨s, rfl, hs⟩, ⟨n1, rfl⟩, ⟨n2, rfl⟩, ⟨n3, rfl⟩, ⟨n4, rfl⟩, ⟨n5, rfl⟩, _⟩ := h
    exact ⟨⟨s, n1, n2, n3, n4, n5⟩, rfl, hs⟩
  | [], h => simp [hasShs] at h
  | [_], h => simp [hasShs] at h
  | [_, _], h => simp [hasShs] at h
  | [_, _, _], h => simp [hasShs] at h
  | [_, _, _, _], h => simp [hasShs] at h
  | [_, _, _, _, _], h => simp [hasShs] at h
  | _ :: _ :: _ :: _ :: _ :: _ :: _ :: _, h => simp [hasShs] at h
theorem uni_of_sh {x : LV} (h : hasSh shUni x) : ∃ u : Uni, x = u.lv ∧ True := by
  simp only [hasSh] at h
  obtain ⟨xs, rfl, h⟩ := h
  match xs, h with
  | [a, b, c, d], h =>
    simp only [hasShs, hasSh] at h
    obtain ⟨⟨n1, rfl⟩, ⟨n2, rfl⟩, ⟨n3, rfl⟩, ⟨n4, rfl⟩, _⟩ := h
    exact ⟨⟨n1, n2, n3, n4⟩, rfl, trivial⟩
  | [], h => simp [hasShs] at h
  | [_], h => simp [hasShs] at h
  | [_, _], h => simp [hasShs] at h
  | [_, _, _], h => simp [hasShs] at h
  | _ :: _ :: _ :: _ :: _ :: _, h => simp [hasShs] at h
theorem fam_of_sh {x : LV} (h : hasSh shFam x) : ∃ (ps : List Per) (us : List Uni), x = famLV ps us ∧ FamOK ps us := by
  simp only [hasSh] at h
  obtain ⟨xs, rfl, h⟩ := h
  match xs, h with
  | [a, b], h =>
    simp only [hasShs, hasSh] at h
    obtain ⟨⟨ys, rfl, hl, hy⟩, ⟨zs, rfl, hm, hz⟩, _⟩ := h
    obtain ⟨ps, rfl, hps⟩ := list_of (lv := Per.lv) (Q := fun p => p.name.size ≤ maxLen) ys fun y hy' => per_of_sh (by simp only [hasSh]; exact hy y hy')
    obtain ⟨us, rfl, _⟩ := list_of (lv := Uni.lv) (Q := fun _ => True) zs fun y hy' => uni_of_sh (by simp only [hasSh]; exact hz y hy')
    exact ⟨ps, us, rfl, ⟨by simpa using hl, by simpa using hm, hps⟩⟩
  | [], h => simp [hasShs] at h
  | [_], h => simp [hasShs] at h
  | _ :: _ :: _ :: _, h => simp [hasShs] at h
end Go.Proofs.Ytbiagkccgijdlaa


namespace Go.Proofs.Ytbiagkccgijdlaa
open Go.Lg Go.Pm
set_option maxHeartbeats 3200000
set_option maxRecDepth 10000
set_option linter.unusedVariables false
set_option linter.unusedSimpArgs false

/-! ### Customs out of words -/
def hasSuf (s f : ByteArray) : Bool := leI (f.size : Int) (s.size : Int) && eqS (s.extract (s.size - f.size) s.size) f
def cutA (s f : ByteArray) : ByteArray := match hasSuf s f with | true => s.extract 0 (s.size - f.size) | false => s
theorem hasSuffix_spec (s f : ByteArray) (hs : s.size ≤ 1048576) (hf : f.size ≤ 1048576) : FSpec env.P 121 [.str s, .str f] (.bool (hasSuf s f)) := by
  have hw : ∀ {a b : Nat}, a ≤ 1048576 → b ≤ 1048576 → IntKind.i64.wrap ((a : Int) - (b : Int)) = (a : Int) - (b : Int) := fun h1 h2 => wrap64 (by omega) (by omega)
  refine FSpec_of_code env_ok (fn := Try.f121) Try.func121 rfl Try.call121 _ _ ?_
  unfold hasSuf
  ((repeat ((conv => whnf); first | refine brT ?_ | refine brF ?_)); conv => whnf)
  intro _
  ((repeat ((conv => whnf); first | refine brT ?_ | refine brF ?_)); conv => whnf)
  intro _
  ((repeat ((conv => whnf); first | refine brT ?_ | refine brF ?_)); conv => whnf)
  cases e : leI (f.size : Int) (s.size : Int)
  · ((repeat ((conv => whnf); first | refine brT ?_ | refine brF ?_)); conv => whnf)
    exact fin rfl
  · rw [leI_t] at e
    ((repeat ((conv => whnf); first | refine brT ?_ | refine brF ?_)); conv => whnf)
    intro _
    ((repeat ((conv => whnf); first | refine brT ?_ | refine brF ?_)); conv => whnf)
    intro _
    ((repeat ((conv => whnf); first | refine brT ?_ | refine brF ?_)); conv => whnf)
    rw [hw hs hf]
    refine ⟨s.size - f.size, s.size, (by show (s.size : Int) - (f.size : Int) = _; omega), rfl, by omega, Nat.le_refl _, ?_⟩
    ((repeat ((conv => whnf); first | refine brT ?_ | refine brF ?_)); conv => whnf)
    exact fin rfl
theorem cutSuffix_in (s f : ByteArray) (hs : s.size ≤ 1048576) (hf : f.size ≤ 1048576) : FSpec env.P 88 [.str s, .str f] (.tup [.str (cutA s f), .bool (hasSuf s f)]) := by
  have h := hasSuffix_spec s f hs hf
  refine FSpec_of_code env_ok (fn := Try.f88) Try.func88 rfl Try.call88 _ _ ?_
  unfold cutA
  ((repeat ((conv => whnf); first | refine brT ?_ | refine brF ?_)); conv => whnf)
  refine ⟨_, h, ?_⟩
  ((repeat ((conv => whnf); first | refine brT ?_ | refine brF ?_)); conv => whnf)
  cases e : hasSuf s f
  · rw [show notB false = true by simp [notB]]
    ((repeat ((conv => whnf); first | refine brT ?_ | refine brF ?_)); conv => whnf)
    (repeat (first | exact List.nodup_nil | refine ⟨rfl, ?_⟩))
  · rw [show notB true = false by simp [notB]]
    have e2 : f.size ≤ s.size := by unfold hasSuf at e; rw [Bool.and_eq_true, leI_t] at e; omega
    ((repeat ((conv => whnf); first | refine brT ?_ | refine brF ?_)); conv => whnf)
    intro _
    ((repeat ((conv => whnf); first | refine brT ?_ | refine brF ?_)); conv => whnf)
    intro _
    ((repeat ((conv => whnf); first | refine brT ?_ | refine brF ?_)); conv => whnf)
    rw [wrap64 (by omega) (by omega)]
    refine ⟨0, s.size - f.size, rfl, (by show (s.size : Int) - (f.size : Int) = _; omega), by omega, by omega, ?_⟩
    ((repeat ((conv => whnf); first | refine brT ?_ | refine brF ?_)); conv => whnf)
    (repeat (first | exact List.nodup_nil | refine ⟨rfl, ?_⟩))
theorem cutSuffix_spec (s f : ByteArray) (hs : s.size ≤ 1048576) (hf : f.size ≤ 1048576) : FSpec env.P 53 [.str s, .str f] (.tup [.str (cutA s f), .bool (hasSuf s f)]) := by
  have h := cutSuffix_in s f hs hf
  generalize cutA s f = a at h ⊢
  generalize hasSuf s f = b at h ⊢
  refine FSpec_of_code env_ok (fn := Try.f53) Try.func53 rfl Try.call53 _ _ ?_
  ((repeat ((conv => whnf); first | refine brT ?_ | refine brF ?_)); conv => whnf)
  refine ⟨_, h, ?_⟩
  ((repeat ((conv => whnf); first | refine brT ?_ | refine brF ?_)); conv => whnf)
  (repeat (first | exact List.nodup_nil | refine ⟨rfl, ?_⟩))
theorem cutA_len (s f : ByteArray) : (cutA s f).size ≤ s.size := by
  unfold cutA
  cases hasSuf s f
  · exact Nat.le_refl _
  · simp only [ByteArray.size_extract]; omega
/-- The first place of a word. -/
def ixB (s : ByteArray) (k : Nat) : List ByteArray → Int
  | [] => -1
  | w :: l => match eqS s w with | true => (k : Int) | false => ixB s (k + 1) l
theorem indexB_spec (l : List ByteArray) (x : ByteArray) : FSpec env.P 54 [.sl (l.map LV.str), .str x] (.int .i64 (ixB x 0 l)) := by
  refine FSpec_of_code env_ok (fn := Try.f54) Try.func54 rfl Try.call54 _ _ ?_
  have hX : (l.map LV.str).length = l.length := List.length_map ..
  ((repeat ((conv => whnf); first | refine brT ?_ | refine brF ?_)); conv => whnf)
  intro hp
  rw [hX] at hp ⊢
  ((repeat ((conv => whnf); first | refine brT ?_ | refine brF ?_)); conv => whnf)
  refine loop_rule (α := Nat) (fun k => [(8, .int .i64 (k : Int))]) (fun _ => []) (fun k => l.length - k) (fun k => k ≤ l.length ∧ ixB x 0 l = ixB x k (l.drop k)) 0 ⟨Nat.zero_le _, rfl⟩ ?_ ?_
  · refine ⟨?_, trivial, rfl, rfl⟩
    ((repeat ((conv => whnf); refine ⟨rfl, ?_⟩)); trivial)
  rintro k ⟨hk, he⟩
  ((repeat ((conv => whnf); first | refine brT ?_ | refine brF ?_)); conv => whnf)
  (refine ⟨fun h1 => ?_, fun h1 => ?_⟩ <;> rw [h1])
  · have hlt : k < l.length := by rw [ltI_t] at h1; omega
    have hd : ixB x 0 l = (match eqS x l[k] with | true => (k : Int) | false => ixB x (k + 1) (l.drop (k + 1))) := by
      rw [he, List.drop_eq_getElem_cons hlt]; simp only [ixB]
    ((repeat ((conv => whnf); first | refine brT ?_ | refine brF ?_)); conv => whnf)
    refine ⟨k, LV.str l[k], rfl, by simp [hlt], rfl, ?_⟩
    ((repeat ((conv => whnf); first | refine brT ?_ | refine brF ?_)); conv => whnf)
    (refine ⟨fun h3 => ?_, fun h3 => ?_⟩ <;> rw [h3])
    · rw [h3] at hd
      ((repeat ((conv => whnf); first | refine brT ?_ | refine brF ?_)); conv => whnf)
      exact ⟨rfl, hd.symm, List.nodup_nil⟩
    · rw [h3] at hd
      ((repeat ((conv => whnf); first | refine brT ?_ | refine brF ?_)); conv => whnf)
      refine round_end (k + 1) ⟨hlt, hd⟩ (by omega) ⟨?_, trivial, rfl, rfl⟩
      have e := step_i hlt hp
      ((repeat ((conv => whnf); first | refine ⟨e, ?_⟩ | refine ⟨rfl, ?_⟩)); trivial)
  · have h4 : k = l.length := by rw [ltI_f] at h1; omega
    subst h4
    ((repeat ((conv => whnf); first | refine brT ?_ | refine brF ?_)); conv => whnf)
    refine ⟨rfl, ?_, List.nodup_nil⟩
    rw [he, List.drop_eq_nil_of_le (Nat.le_refl _)]
    simp only [ixB]
def wordsB : List ByteArray := [⟨#[97, 110, 121]⟩, ⟨#[109, 101, 110]⟩, ⟨#[119, 111, 109, 101, 110]⟩, ⟨#[111, 110, 108, 121, 32, 109, 101, 110]⟩, ⟨#[111, 110, 108, 121, 32, 119, 111, 109, 101, 110]⟩]
def prsX (s : ByteArray) : Cus := ⟨ixB (cutA (cutA s reprW) youngW) 0 wordsB, hasSuf (cutA s reprW) youngW, hasSuf s reprW⟩
def prsR (s : ByteArray) : Cus × Bool := match cusOk (prsX s) with | true => (prsX s, true) | false => (⟨0, false, false⟩, false)
theorem parse_impl (s : ByteArray) (hs : s.size ≤ 1048576) : FSpec env.P 18 [.str s] (.tup [(prsR s).1.lv, .bool (prsR s).2]) := by
  have h1 := cutSuffix_spec s reprW hs (by decide)
  have h2 := cutSuffix_spec (cutA s reprW) youngW (Nat.le_trans (cutA_len _ _) hs) (by decide)
  have h3 := indexB_spec wordsB (cutA (cutA s reprW) youngW)
  have h4 := cus_impl (prsX s)
  unfold prsR
  generalize hc : cusOk (prsX s) = c at h4 ⊢
  unfold prsX at h4 ⊢
  generalize ixB (cutA (cutA s reprW) youngW) 0 wordsB = k at h3 h4 ⊢
  generalize hasSuf (cutA s reprW) youngW = yo at h2 h4 ⊢
  generalize hasSuf s reprW = re at h1 h4 ⊢
  generalize cutA (cutA s reprW) youngW = r2 at h2 h3
  generalize cutA s reprW = r1 at h1 h2
  unfold Cus.lv at h4 ⊢
  refine FSpec_of_code env_ok (fn := Try.f18) Try.func18 rfl Try.call18 _ _ ?_
  ((repeat ((conv => whnf); first | refine brT ?_ | refine brF ?_)); conv => whnf)
  refine ⟨_, h1, ?_⟩
  ((repeat ((conv => whnf); first | refine brT ?_ | refine brF ?_)); conv => whnf)
  refine ⟨_, h2, ?_⟩
  ((repeat ((conv => whnf); first | refine brT ?_ | refine brF ?_)); conv => whnf)
  refine ⟨_, words_spec, ?_⟩
  ((repeat ((conv => whnf); first | refine brT ?_ | refine brF ?_)); conv => whnf)
  refine ⟨_, h3, ?_⟩
  ((repeat ((conv => whnf); first | refine brT ?_ | refine brF ?_)); conv => whnf)
  refine ⟨_, h4, ?_⟩
  ((repeat ((conv => whnf); first | refine brT ?_ | refine brF ?_)); conv => whnf)
  cases c
  · rw [show notB false = true by simp [notB]]
    ((repeat ((conv => whnf); first | refine brT ?_ | refine brF ?_)); conv => whnf)
    refine ⟨_, rfl, rfl, ?_⟩
    simp [exsW, exW]
    exact ⟨rfl, List.nodup_nil⟩
  · rw [show notB true = false by simp [notB]]
    ((repeat ((conv => whnf); first | refine brT ?_ | refine brF ?_)); conv => whnf)
    refine ⟨_, rfl, rfl, ?_⟩
    simp [exsW, exW]
    exact ⟨rfl, List.nodup_nil⟩
/-! what is parsed is what is written -/
theorem loop_eq (bs : ByteArray) : ∀ (n i : Nat) (r : List UInt8), n = bs.size - i → ByteArray.toList.loop bs i r = r.reverse ++ bs.data.toList.drop i
  | 0, i, r, h => by
    rw [ByteArray.toList.loop]
    split
    · omega
    · rw [List.drop_eq_nil_of_le (by have : bs.data.toList.length = bs.size := rfl; omega), List.append_nil]
  | n + 1, i, r, h => by
    rw [ByteArray.toList.loop]
    split
    · rename_i hi
      have hl : i < bs.data.toList.length := hi
      rw [loop_eq bs n (i + 1) _ (by omega), List.drop_eq_getElem_cons hl, List.reverse_cons, List.append_assoc]
      congr 2
      have hd : i < bs.data.size := hi
      obtain ⟨d⟩ := bs
      show [d[i]!] ++ _ = _
      simp only at hd
      rw [getElem!_pos d i hd]
      rfl
    · omega
theorem toList_data (bs : ByteArray) : bs.toList = bs.data.toList := by
  unfold ByteArray.toList
  rw [loop_eq bs _ 0 [] rfl]
  rfl
theorem eqS_t {s t : ByteArray} : eqS s t = true ↔ s = t := by
  unfold eqS
  rw [toList_data, toList_data, beq_iff_eq, Array.toList_inj]
  exact ⟨fun h => ByteArray.ext h, fun h => by rw [h]⟩
theorem eqS_d (s t : ByteArray) : eqS s t = decide (s = t) := by rw [Bool.eq_iff_iff, eqS_t, decide_eq_true_eq]
theorem suf_app {s f : ByteArray} (h : hasSuf s f = true) : cutA s f ++ f = s := by
  have h0 := h
  unfold hasSuf at h0
  rw [Bool.and_eq_true, leI_t, eqS_t] at h0
  unfold cutA
  rw [h]
  simp only
  conv => lhs; rhs; rw [← h0.2]
  rw [← ByteArray.extract_eq_extract_append_extract _ (by omega) (by omega), ByteArray.extract_zero_size]
theorem suf_no {s f : ByteArray} (h : hasSuf s f = false) : cutA s f = s := by unfold cutA; rw [h]
theorem ixB_word (s : ByteArray) (h : 0 ≤ ixB s 0 wordsB) : prefW (ixB s 0 wordsB) = s := by
  unfold wordsB at h ⊢
  simp only [ixB] at h ⊢
  cases e0 : eqS s ⟨#[97, 110, 121]⟩ <;> rw [e0] at h
  · cases e1 : eqS s ⟨#[109, 101, 110]⟩ <;> rw [e1] at h
    · cases e2 : eqS s ⟨#[119, 111, 109, 101, 110]⟩ <;> rw [e2] at h
      · cases e3 : eqS s ⟨#[111, 110, 108, 121, 32, 109, 101, 110]⟩ <;> rw [e3] at h
        · cases e4 : eqS s ⟨#[111, 110, 108, 121, 32, 119, 111, 109, 101, 110]⟩ <;> rw [e4] at h
          · simp at h
          · exact (eqS_t.1 e4).symm
        · exact (eqS_t.1 e3).symm
      · exact (eqS_t.1 e2).symm
    · exact (eqS_t.1 e1).symm
  · exact (eqS_t.1 e0).symm
theorem prs_fmt {s : ByteArray} (h : (prsR s).2 = true) : cusOk (prsR s).1 = true ∧ fmtC (prsR s).1 = s := by
  unfold prsR at h ⊢
  cases hc : cusOk (prsX s) <;> rw [hc] at h
  · simp at h
  simp only
  refine ⟨hc, ?_⟩
  have hk : 0 ≤ ixB (cutA (cutA s reprW) youngW) 0 wordsB := by
    unfold cusOk prsX at hc
    rw [Bool.and_eq_true, leI_t] at hc
    exact hc.1
  have hw := ixB_word _ hk
  unfold fmtC
  rw [hc]
  unfold prsX
  simp only
  rw [hw]
  cases hr : hasSuf s reprW <;> cases hy : hasSuf (cutA s reprW) youngW
  · simp only; rw [suf_no hy, suf_no hr]
  · simp only; rw [suf_app hy, suf_no hr]
  · simp only; rw [suf_no hy, suf_app hr]
  · simp only; rw [suf_app hy, suf_app hr]
/-! the same, as the kernel computes it -/
def hasSufD (s f : ByteArray) : Bool := decide ((f.size : Int) ≤ (s.size : Int)) && decide (s.extract (s.size - f.size) s.size = f)
def cutAD (s f : ByteArray) : ByteArray := match hasSufD s f with | true => s.extract 0 (s.size - f.size) | false => s
def ixBD (s : ByteArray) (k : Nat) : List ByteArray → Int
  | [] => -1
  | w :: l => match decide (s = w) with | true => (k : Int) | false => ixBD s (k + 1) l
def cusOkD (x : Cus) : Bool := decide (0 ≤ x.prefer) && decide (x.prefer ≤ 4)
def prsXD (s : ByteArray) : Cus := ⟨ixBD (cutAD (cutAD s reprW) youngW) 0 wordsB, hasSufD (cutAD s reprW) youngW, hasSufD s reprW⟩
def prsRD (s : ByteArray) : Cus × Bool := match cusOkD (prsXD s) with | true => (prsXD s, true) | false => (⟨0, false, false⟩, false)
def fmtCD (x : Cus) : ByteArray := match cusOkD x with
  | false => ⟨#[]⟩
  | true => match x.young, x.repr with
    | false, false => prefW x.prefer
    | true, false => prefW x.prefer ++ youngW
    | false, true => prefW x.prefer ++ reprW
    | true, true => (prefW x.prefer ++ youngW) ++ reprW
theorem cusOk_D (x : Cus) : cusOk x = cusOkD x := by unfold cusOk cusOkD; rw [leI_d, leI_d]
theorem fmtC_D (x : Cus) : fmtC x = fmtCD x := by unfold fmtC fmtCD; (rw [cusOk_D]) <;> rfl
theorem hasSuf_D (s f : ByteArray) : hasSuf s f = hasSufD s f := by unfold hasSuf hasSufD; rw [leI_d, eqS_d]
theorem cutA_D (s f : ByteArray) : cutA s f = cutAD s f := by unfold cutA cutAD; rw [hasSuf_D]
theorem ixB_D (s : ByteArray) : ∀ (l : List ByteArray) (k : Nat), ixB s k l = ixBD s k l
  | [], _ => rfl
  | w :: l, k => by simp only [ixB, ixBD, eqS_d, ixB_D s l]
theorem prsR_D (s : ByteArray) : prsR s = prsRD s := by unfold prsR prsRD prsX prsXD; simp only [cusOk_D, hasSuf_D, cutA_D, ixB_D]
theorem fmt_prs {x : Cus} (h : cusOk x = true) : prsR (fmtC x) = (x, true) := by
  obtain ⟨k, yo, re⟩ := x
  have hk : k = 0 ∨ k = 1 ∨ k = 2 ∨ k = 3 ∨ k = 4 := by
    unfold cusOk at h
    rw [Bool.and_eq_true, leI_t, leI_t] at h
    simp only at h
    omega
  rw [prsR_D, fmtC_D]
  clear h
  rcases hk with rfl | rfl | rfl | rfl | rfl <;> cases yo <;> cases re <;> (show _ = _) <;> kernel_rfl
def cuS (k : Int) (i : Nat) : Cus := ⟨k, eqI ((i : Int).tmod 2) 1, ltI 1 (i : Int)⟩
theorem parse_spec (s : ByteArray) : FSpec env.P 17 [.str s] (.tup [(prsR s).1.lv, .bool (prsR s).2]) := by
  refine FSpec_of_code env_ok (fn := Try.f17) Try.func17 rfl Try.call17 _ _ ?_
  ((repeat ((conv => whnf); first | refine brT ?_ | refine brF ?_)); conv => whnf)
  refine loop_rule (α := Nat) (fun k => [(4, .int .i64 (k : Int))]) (fun _ => [.box (.st [.int .i64 0, .bool false, .bool false])]) (fun k => 5 - k) (fun k => k ≤ 5 ∧ ∀ k' : Nat, k' < k → ∀ i : Nat, i < 4 → eqS (fmtC (cuS k' i)) s = false) 0 ⟨Nat.zero_le _, fun k' h => by omega⟩ ?_ ?_
  · refine ⟨?_, ⟨rfl, trivial⟩, rfl, rfl⟩
    ((repeat ((conv => whnf); refine ⟨rfl, ?_⟩)); trivial)
  rintro k ⟨hk, hin⟩
  generalize hK : kk _ = KK
  ((repeat ((conv => whnf); first | refine brT ?_ | refine brF ?_)); conv => whnf)
  (refine ⟨fun g1 => ?_, fun g1 => ?_⟩ <;> rw [g1])
  · have hk4 : k < 5 := by rw [leI_t] at g1; omega
    ((repeat ((conv => whnf); first | refine brT ?_ | refine brF ?_)); conv => whnf)
    refine loop_rule (α := Nat) (fun i => [(5, .int .i64 (i : Int))]) (fun _ => [.box (.st [.int .i64 0, .bool false, .bool false])]) (fun i => 4 - i) (fun i => i ≤ 4 ∧ ∀ i' : Nat, i' < i → eqS (fmtC (cuS k i')) s = false) 0 ⟨Nat.zero_le _, fun i' h => by omega⟩ ?_ ?_
    · refine ⟨?_, ⟨rfl, trivial⟩, rfl, rfl⟩
      ((repeat ((conv => whnf); refine ⟨rfl, ?_⟩)); trivial)
    rintro i ⟨hi, hii⟩
    generalize hK2 : kk _ = KK2
    have hF := fmt_spec (cuS k i)
    unfold Cus.lv at hF
    have hqq : fmtC (cuS k i) = fmtC (cuS k i) := rfl
    generalize hFF : fmtC (cuS k i) = F at hF
    have hcu : cuS (k : Int) i = ⟨k, eqI ((i : Int).tmod 2) 1, ltI 1 (i : Int)⟩ := rfl
    rw [hcu] at hF
    clear hcu hqq
    generalize hm : (i : Int) = m at hF ⊢
    ((repeat ((conv => whnf); first | refine brT ?_ | refine brF ?_)); conv => whnf)
    (refine ⟨fun g2 => ?_, fun g2 => ?_⟩ <;> rw [g2])
    · have hi4 : i < 4 := by rw [ltI_t] at g2; omega
      have hk5 : cusOk (cuS k i) = true := by
        unfold cusOk cuS
        rw [Bool.and_eq_true, leI_t, leI_t]
        simp only
        omega
      have hfp := fmt_prs hk5
      ((repeat ((conv => whnf); first | refine brT ?_ | refine brF ?_)); conv => whnf)
      refine ⟨by decide, ?_⟩
      ((repeat ((conv => whnf); first | refine brT ?_ | refine brF ?_)); conv => whnf)
      refine ⟨_, hF, ?_⟩
      ((repeat ((conv => whnf); first | refine brT ?_ | refine brF ?_)); conv => whnf)
      cases hq : eqS F s
      · ((repeat ((conv => whnf); first | refine brT ?_ | refine brF ?_)); conv => whnf)
        rw [← hFF] at hq
        subst hm
        subst hK2
        refine round_end (i + 1) ⟨hi4, fun i' hi' => ?_⟩ (by omega) ⟨?_, ⟨rfl, trivial⟩, rfl, rfl⟩
        · rcases Nat.lt_or_ge i' i with h | h
          · exact hii i' h
          · have : i' = i := by omega
            subst this; exact hq
        have e := step_i hi4 (show 4 ≤ Go.maxLen by unfold Go.maxLen; omega)
        ((repeat ((conv => whnf); first | refine ⟨e, ?_⟩ | refine ⟨rfl, ?_⟩)); trivial)
      · rw [eqS_t] at hq
        rw [hFF, hq] at hfp
        have hcu : cuS (k : Int) i = ⟨k, eqI (m.tmod 2) 1, ltI 1 m⟩ := by rw [← hm]; rfl
        ((repeat ((conv => whnf); first | refine brT ?_ | refine brF ?_)); conv => whnf)
        subst hK2
        ((repeat ((conv => whnf); first | refine brT ?_ | refine brF ?_)); conv => whnf)
        subst hK
        rw [hfp, hcu]
        ((repeat ((conv => whnf); first | refine brT ?_ | refine brF ?_)); conv => whnf)
        refine ⟨_, rfl, rfl, ?_⟩
        simp [exsW, exW, Cus.lv]
        exact ⟨rfl, List.nodup_nil⟩
    · have hi4 : i = 4 := by rw [ltI_f] at g2; omega
      subst hi4
      subst hK2
      ((repeat ((conv => whnf); first | refine brT ?_ | refine brF ?_)); conv => whnf)
      subst hK
      refine round_end (k + 1) ⟨hk4, fun k' hk' i' hi' => ?_⟩ (by omega) ⟨?_, ⟨rfl, trivial⟩, rfl, rfl⟩
      · rcases Nat.lt_or_ge k' k with h | h
        · exact hin k' h i' hi'
        · have : k' = k := by omega
          subst this; exact hii i' hi'
      have e := step_i hk4 (show 5 ≤ Go.maxLen by unfold Go.maxLen; omega)
      ((repeat ((conv => whnf); first | refine ⟨e, ?_⟩ | refine ⟨rfl, ?_⟩)); trivial)
  · have hk5 : k = 5 := by rw [leI_f] at g1; omega
    subst hk5
    have hno : prsR s = (⟨0, false, false⟩, false) := by
      cases hb : (prsR s).2
      · unfold prsR at hb ⊢
        generalize cusOk (prsX s) = c at hb ⊢
        cases c
        · rfl
        · simp at hb
      · obtain ⟨h1, h2⟩ := prs_fmt hb
        generalize (prsR s).1 = c at h1 h2
        obtain ⟨a, yo, re⟩ := c
        have ha : 0 ≤ a ∧ a ≤ 4 := by
          unfold cusOk at h1
          rw [Bool.and_eq_true, leI_t, leI_t] at h1
          exact h1
        have key : ∀ i : Nat, i < 4 → cuS a i = ⟨a, yo, re⟩ → False := fun i hi e => by
          have := hin a.toNat (by omega) i hi
          rw [show ((a.toNat : Nat) : Int) = a by omega, e, h2, eqS_refl] at this
          cases this
        exfalso
        have w0 : ((0 : Nat) : Int).tmod 2 = 0 := by decide
        have w1 : ((1 : Nat) : Int).tmod 2 = 1 := by decide
        have w2 : ((2 : Nat) : Int).tmod 2 = 0 := by decide
        have w3 : ((3 : Nat) : Int).tmod 2 = 1 := by decide
        cases yo <;> cases re
        · exact key 0 (by omega) (by unfold cuS; rw [w0, eqI_d, ltI_d]; rfl)
        · exact key 2 (by omega) (by unfold cuS; rw [w2, eqI_d, ltI_d]; rfl)
        · exact key 1 (by omega) (by unfold cuS; rw [w1, eqI_d, ltI_d]; rfl)
        · exact key 3 (by omega) (by unfold cuS; rw [w3, eqI_d, ltI_d]; rfl)
    subst hK
    rw [hno]
    ((repeat ((conv => whnf); first | refine brT ?_ | refine brF ?_)); conv => whnf)
    refine ⟨_, rfl, rfl, ?_⟩
    simp [exsW, exW, Cus.lv]
    exact ⟨rfl, List.nodup_nil⟩
end Go.Proofs.Ytbiagkccgijdlaa


namespace Go.Proofs.Ytbiagkccgijdlaa
open Go.Lg Go.Pm
set_option maxHeartbeats 3200000
set_option maxRecDepth 10000
set_option linter.unusedVariables false
set_option linter.unusedSimpArgs false

def Cus.eq (a b : Cus) : Bool := eqI a.prefer b.prefer && (eqB a.young b.young && eqB a.repr b.repr)
theorem eqCus_spec (a b : Cus) : FSpec env.P 19 [a.lv, b.lv] (.bool (a.eq b)) := by
  obtain ⟨p, y, r⟩ := a
  obtain ⟨p', y', r'⟩ := b
  refine FSpec_of_code env_ok (fn := Try.f19) Try.func19 rfl Try.call19 _ _ ?_
  unfold Cus.eq
  ((repeat' (((repeat ((conv => whnf); first | refine brT ?_ | refine brF ?_)); conv => whnf); first | (refine And.intro ?_ ?_ <;> (intro h; rw [h]; revert h; intro _)) | (refine Exists.intro true (And.intro (a := drawB _ _ = true) (by kernel_rfl) ?_)) | (refine Exists.intro _ (And.intro () ?_)))); all_goals ((repeat ((conv => whnf); first | refine brT ?_ | refine brF ?_)); conv => whnf))
  all_goals (refine fin ?_; simp_all [notB])
theorem law_parseCustom (s : ByteArray) (_h : s.size ≤ Go.maxLen) : FSpec env.P 5 [.str s] (.bool true) := by
  have hS := parse_spec s
  have hI := parse_impl s
  have hE := eqCus_spec (prsR s).1 (prsR s).1
  have hr : (prsR s).1.eq (prsR s).1 = true := by unfold Cus.eq; simp [eqI_refl, eqB_refl]
  rw [hr] at hE
  clear hr
  generalize (prsR s).1 = c at hS hI hE
  generalize (prsR s).2 = b at hS hI
  obtain ⟨p, y, r⟩ := c
  unfold Cus.lv at *
  refine FSpec_of_code env_ok (fn := Try.f5) Try.func5 rfl Try.call5 _ _ ?_
  ((repeat ((conv => whnf); first | refine brT ?_ | refine brF ?_)); conv => whnf)
  intro _
  ((repeat ((conv => whnf); first | refine brT ?_ | refine brF ?_)); conv => whnf)
  (refine ⟨fun h => ?_, fun h => ?_⟩ <;> rw [h])
  · ((repeat ((conv => whnf); first | refine brT ?_ | refine brF ?_)); conv => whnf); exact fin rfl
  rw [ltI_f] at h
  have hI := hI (by omega)
  ((repeat ((conv => whnf); first | refine brT ?_ | refine brF ?_)); conv => whnf)
  refine ⟨_, hS, ?_⟩
  ((repeat ((conv => whnf); first | refine brT ?_ | refine brF ?_)); conv => whnf)
  refine ⟨_, hI, ?_⟩
  ((repeat ((conv => whnf); first | refine brT ?_ | refine brF ?_)); conv => whnf)
  refine ⟨_, hE, ?_⟩
  ((repeat ((conv => whnf); first | refine brT ?_ | refine brF ?_)); conv => whnf)
  rw [show notB true = false by simp [notB]]
  ((repeat ((conv => whnf); first | refine brT ?_ | refine brF ?_)); conv => whnf)
  rw [show notB (eqB b b) = false by simp [notB, eqB_refl]]
  ((repeat ((conv => whnf); first | refine brT ?_ | refine brF ?_)); conv => whnf)
  exact fin rfl
end Go.Proofs.Ytbiagkccgijdlaa

