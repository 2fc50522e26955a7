/- Contracts of functions of the program and of its model, told over readings. -/
import Derived.Test.YtgkjafmmekjjlaaGreatCWGC
import Derived.Test.YtgkjafmmekjjlaaGreatCWGA
import Derived.Test.YtgkjafmmekjjlaaGreatCLgSO
import Derived.Shelf.SlSortCmp.NoneTotal
import Derived.Test.YtgkjafmmekjjlaaGreatChecked
set_option maxHeartbeats 6400000
set_option maxRecDepth 10000
set_option linter.unusedVariables false
set_option linter.unusedSimpArgs false
set_option linter.unusedSectionVars false
namespace Go.Proofs.YtgkjafmmekjjlaaGreat
open Go.Lg Go.Pm
theorem identity_h (n : Nat) (hb : n ≤ 1048576) : HSpec env.P 118 [.int .i64 (n : Int)] [] (.hs 0 ((unit n).map intLV).length) [.arr 3 1 ((unit n).map intLV)] := by
  refine HSpec_of_code (E := env.x [] 0) env_ok.x (fn := Tryz.f118) Tryz.func118 rfl Tryz.call118 _ _ _ _ ?_
  have hp' : n ≤ Go.maxLen := by unfold Go.maxLen; omega
  have hu := unit_len n
  ((repeat ((conv => whnf); first | refine brT ?_ | refine brF ?_)); conv => whnf)
  refine ⟨n, by simp, by simp, by show 8 * n ≤ _; omega, hp', rfl, by decide, ?_⟩
  ((repeat ((conv => whnf); first | refine brT ?_ | refine brF ?_)); conv => whnf)
  refine ⟨by simp, fun _ => ?_⟩
  ((repeat ((conv => whnf); first | refine brT ?_ | refine brF ?_)); conv => whnf)
  refine loop_rule (α := Nat) (fun k => [(9, .int .i64 (k : Int))]) (fun k => [.arr 3 1 (fillLV intLV (intLV 0) (unit n) k)]) (fun k => n - k) (fun k => k ≤ n) 0 (Nat.zero_le _) ?_ ?_
  · refine ⟨?_, ⟨by simp [fillLV, intLV, hu], trivial⟩, rfl, rfl⟩
    ((repeat ((conv => whnf); refine ⟨rfl, ?_⟩)); trivial)
  intro k hk
  have hfl : (fillLV intLV (intLV 0) (unit n) k).length = n := by rw [fill_len (by omega), hu]
  ((repeat ((conv => whnf); first | refine brT ?_ | refine brF ?_)); conv => whnf)
  (refine ⟨fun h1 => ?_, fun h1 => ?_⟩ <;> rw [h1])
  · have hlt : k < n := by rw [ltI_t] at h1; simp at h1; omega
    have hlu : k < (unit n).length := by omega
    have e := step_i hlt hp'
    have eu : (unit n)[k] = (k : Int) := by simp [unit]
    ((repeat ((conv => whnf); first | refine brT ?_ | refine brF ?_)); conv => whnf)
    refine ⟨hfl.symm, rfl, k, rfl, by rw [hfl]; exact hlt, ?_⟩
    ((repeat ((conv => whnf); first | refine brT ?_ | refine brF ?_)); conv => whnf)
    refine ⟨hfl.symm, k, [], intLV 0, rfl, by simp [getP, fill_get hlu], rfl, rfl, rfl, fillLV intLV (intLV 0) (unit n) (k + 1), by rw [fill_get hlu, ← fill_set hlu, eu]; rfl, ?_⟩
    ((repeat ((conv => whnf); first | refine brT ?_ | refine brF ?_)); conv => whnf)
    refine round_end (k + 1) hlt (by omega) ⟨?_, ⟨rfl, trivial⟩, rfl, rfl⟩
    ((repeat ((conv => whnf); first | refine ⟨e, ?_⟩ | refine ⟨rfl, ?_⟩)); trivial)
  · have h4 : k = n := by rw [ltI_f] at h1; simp at h1; omega
    subst h4
    have e5 : fillLV intLV (intLV 0) (unit k) k = (unit k).map intLV := by
      have := fill_all (lv := intLV) (z := intLV 0) (ps := unit k)
      rwa [hu] at this
    ((repeat ((conv => whnf); first | refine brT ?_ | refine brF ?_)); conv => whnf)
    rw [e5]
    exact ⟨[.hs 0 k], by simp [tupOf, hu], rfl, .inl ⟨⟨rfl, trivial⟩, ⟨rfl, trivial⟩, rfl, rfl⟩⟩
theorem idx {q : List Int} {y : Int} (e1 : 0 ≤ y) (e2 : y.toNat < q.length) : y = ((y.toNat : Nat) : Int) ∧ (q.map intLV)[y.toNat]? = some (intLV (q.getD y.toNat 0)) :=
  ⟨by omega, by rw [List.getElem?_map, List.getElem?_eq_getElem e2, getD_lt e2]; rfl⟩
end Go.Proofs.YtgkjafmmekjjlaaGreat
namespace Go.Proofs.YtgkjafmmekjjlaaGreat
open Go.Lg
def upRow (ps : List Per) (k : Nat) : List LV := (clTo ps k).map rowSl ++ List.replicate (ps.length - k) .nil
theorem upRow_len {ps : List Per} {k : Nat} (h : k ≤ ps.length) : (upRow ps k).length = ps.length := by
  simp [upRow, clTo_len]; omega
theorem upRow_at {ps : List Per} {k : Nat} (h : k < ps.length) : (upRow ps k)[k]? = some .nil := by
  unfold upRow
  rw [List.getElem?_append_right (by simp [clTo_len]), List.length_map, clTo_len, Nat.sub_self, List.getElem?_replicate, if_pos (by omega)]
def curRow (ps : List Per) (k : Nat) (R : List Int) : List LV := (clTo ps k).map rowSl ++ rowOw R :: List.replicate (ps.length - k - 1) .nil
theorem cl_mlen (ps : List Per) (k : Nat) : ((clTo ps k).map rowSl).length = k := by rw [List.length_map, clTo_len]
theorem curRow_len {ps : List Per} {k : Nat} {R : List Int} (h : k < ps.length) : (curRow ps k R).length = ps.length := by
  simp [curRow, clTo_len]; omega
theorem curRow_at (ps : List Per) (k : Nat) (R : List Int) : (curRow ps k R)[k]? = some (rowOw R) := by
  unfold curRow
  rw [List.getElem?_append_right (by rw [cl_mlen]; exact Nat.le_refl _), cl_mlen, Nat.sub_self]; rfl
theorem curRow_lt {ps : List Per} {k i : Nat} {R : List Int} (h : i < k) : (curRow ps k R)[i]? = some (rowSl ((clTo ps k).getD i [])) := by
  have hl : i < (clTo ps k).length := by rw [clTo_len]; exact h
  unfold curRow
  rw [List.getElem?_append_left (by simpa using hl), List.getElem?_map, List.getD_eq_getElem?_getD, List.getElem?_eq_getElem hl]; rfl
theorem upRow_set {ps : List Per} {k : Nat} (h : k < ps.length) (R : List Int) : (upRow ps k).set k (rowOw R) = curRow ps k R := by
  unfold upRow curRow
  rw [List.set_append_right _ _ (by rw [cl_mlen]; exact Nat.le_refl _), cl_mlen, Nat.sub_self, show ps.length - k = (ps.length - k - 1) + 1 by omega, List.replicate_succ, List.set_cons_zero]
  rfl
theorem curRow_set (ps : List Per) (k : Nat) (R : List Int) (y : LV) : (curRow ps k R).set k y = (clTo ps k).map rowSl ++ y :: List.replicate (ps.length - k - 1) .nil := by
  unfold curRow
  rw [List.set_append_right _ _ (by rw [cl_mlen]; exact Nat.le_refl _), cl_mlen, Nat.sub_self, List.set_cons_zero]
theorem curRow_fz {ps : List Per} {k : Nat} (h : k < ps.length) {R : List Int} (e : R = (clRow0 (clTo ps k) ps.length k (known ps[k])).set k 0) : (clTo ps k).map rowSl ++ rowSl R :: List.replicate (ps.length - k - 1) .nil = upRow ps (k + 1) := by
  unfold upRow
  have : clTo ps (k + 1) = clTo ps k ++ [R] := by rw [clTo, List.getElem?_eq_getElem h, e]
  rw [this, List.map_append, List.append_assoc, show ps.length - k - 1 = ps.length - (k + 1) by omega]
  rfl
def clP (up : List (List Int)) (n : Nat) (qs : List Int) (j : Nat) : List Int := (qs.take j).foldl (fun row x => clRow row (up.getD x.toNat [])) (List.replicate n 11)
theorem clP_succ {up : List (List Int)} {n : Nat} {qs : List Int} {j : Nat} (h : j < qs.length) : clP up n qs (j + 1) = clRow (clP up n qs j) (up.getD qs[j].toNat []) := by
  unfold clP; rw [List.take_succ_eq_append_getElem h, List.foldl_append]; rfl
theorem clP_len {up : List (List Int)} {n : Nat} {qs : List Int} (h : ∀ x ∈ qs, (up.getD x.toNat []).length = n) : ∀ j, j ≤ qs.length → (clP up n qs j).length = n
  | 0, _ => by simp [clP]
  | j + 1, hj => by
    rw [clP_succ (by omega)]
    exact clRow_len (clP_len h j (by omega)) (h _ (List.getElem_mem _))
theorem intL_at {g : List Int} {i : Nat} (h : i < g.length) : (g.map intLV)[i]? = some (intLV (g.getD i 0)) := by
  rw [List.getElem?_map, List.getElem?_eq_getElem h, List.getD_eq_getElem?_getD, List.getElem?_eq_getElem h]; rfl
def clQ (row pr : List Int) (q : Nat) : List Int := (clRow row pr).take q ++ row.drop q
theorem clQ_len {row pr : List Int} {n q : Nat} (h1 : row.length = n) (h2 : pr.length = n) (hq : q ≤ n) : (clQ row pr q).length = n := by
  unfold clQ; simp [clRow_len h1 h2, h1]; omega
theorem clQ_all {row pr : List Int} {n : Nat} (h1 : row.length = n) (h2 : pr.length = n) : clQ row pr n = clRow row pr := by
  unfold clQ; rw [List.take_of_length_le (by rw [clRow_len h1 h2]; exact Nat.le_refl _), List.drop_eq_nil_of_le (by omega), List.append_nil]
theorem clQ_at {row pr : List Int} {n q : Nat} (h1 : row.length = n) (h2 : pr.length = n) (hq : q < n) : (clQ row pr q).getD q 0 = row.getD q 0 := by
  have hl := clRow_len h1 h2
  unfold clQ
  simp only [List.getD_eq_getElem?_getD]
  rw [List.getElem?_append_right (by rw [List.length_take, hl]; omega), List.length_take, hl, Nat.min_eq_left (by omega), Nat.sub_self, List.getElem?_drop, Nat.add_zero]
theorem clQ_set {row pr : List Int} {n q : Nat} (h1 : row.length = n) (h2 : pr.length = n) (hq : q < n) : (clQ row pr q).set q (minI (row.getD q 0) (pr.getD q 0 + 1)) = clQ row pr (q + 1) := by
  have hl := clRow_len h1 h2
  have hg : (clRow row pr)[q]? = some (minI (row.getD q 0) (pr.getD q 0 + 1)) := by
    have := clRow_get (row := row) (pr := pr) (j := q) (by omega) (by omega)
    rw [← this, List.getD_eq_getElem?_getD, List.getElem?_eq_getElem (by omega)]; rfl
  unfold clQ
  rw [List.set_append_right _ _ (by rw [List.length_take, hl]; omega), List.length_take, hl, Nat.min_eq_left (by omega), Nat.sub_self, List.drop_eq_getElem_cons (by omega), List.set_cons_zero,
    List.take_add_one, hg, List.append_assoc]
  rfl
theorem cl_bound {ps : List Per} (hp : parsIn ps) (hs : shallow (depths ps) = true) {k i q : Nat} (hk : k ≤ ps.length) (hi : i < k) (hq : q < ps.length) : 0 ≤ ((clTo ps k).getD i []).getD q 0 ∧ ((clTo ps k).getD i []).getD q 0 ≤ 11 := by
  rw [(cl_good hp hs k hk i hi).2 q hq]
  have := upd_small hp hs (p := i) (q := q) (by omega) hq
  unfold tooF
  split
  · omega
  · rename_i h; rw [ltI_f] at h; omega
theorem climbs_h (ps : List Per) (us : List Uni) (hl : ps.length ≤ 40) (hp : parsIn ps) (hs : shallow (depths ps) = true) :
    HSpec env.P 91 [famLV ps us] [] (.hs 0 ((clT ps).map rowSl).length) [.tree 29 1 ((clT ps).map rowSl)] := by
  refine HSpec_of_code (E := env.x [73] 0) env_ok.x (fn := Tryz.f91) Tryz.func91 rfl Tryz.call91 _ _ _ _ ?_
  have hP : (ps.map Per.lv).length = ps.length := List.length_map ..
  have hp' : ps.length ≤ Go.maxLen := by unfold Go.maxLen; omega
  ((repeat ((conv => whnf); first | refine brT ?_ | refine brF ?_)); conv => whnf)
  intro _
  ((repeat ((conv => whnf); first | refine brT ?_ | refine brF ?_)); conv => whnf)
  refine ⟨ps.length, by rw [hP], by rw [hP], by show 24 * ps.length ≤ _; omega, hp', rfl, by decide, ?_⟩
  ((repeat ((conv => whnf); first | refine brT ?_ | refine brF ?_)); conv => whnf)
  intro _
  ((repeat ((conv => whnf); first | refine brT ?_ | refine brF ?_)); conv => whnf)
  rw [hP]
  refine loop_ruleR (α := Nat) [.old 0, .old 1] (fun k => [(17, .int .i64 (k : Int))]) (fun k => [.box (famLV ps us), .tree 29 1 (upRow ps k)]) (fun k => ps.length - k) (fun k => k ≤ ps.length) 0 (Nat.zero_le _) ?_ ?_
  · refine ⟨?_, ⟨rfl, rfl, rfl, congrArg (Blk.tree 29 1) (by simp [upRow, clTo]), trivial⟩, rfl⟩
    ((repeat ((conv => whnf); refine ⟨rfl, rfl, ?_⟩)); trivial)
  intro k hk
  generalize hK : kk _ = KK
  ((repeat ((conv => whnf); first | refine brT ?_ | refine brF ?_)); conv => whnf)
  (refine ⟨fun g1 => ?_, fun g1 => ?_⟩ <;> rw [g1])
  · have hlt : k < ps.length := by rw [ltI_t] at g1; omega
    have e := step_i hlt hp'
    ((repeat ((conv => whnf); first | refine brT ?_ | refine brF ?_)); conv => whnf)
    refine ⟨k, ps[k].lv, rfl, by simp [hlt], rfl, ?_⟩
    ((repeat ((conv => whnf); first | refine brT ?_ | refine brF ?_)); conv => whnf)
    intro _
    ((repeat ((conv => whnf); first | refine brT ?_ | refine brF ?_)); conv => whnf)
    rw [hP]
    have hrep := repeat_h 11 ps.length (by omega) hl
    rw [show List.replicate ps.length (LV.int .i64 11) = (List.replicate ps.length 11).map intLV by simp [intLV]] at hrep
    refine ⟨[], _, _, _, _, hrep, rfl, ?_⟩
    ((repeat ((conv => whnf); first | refine brT ?_ | refine brF ?_)); conv => whnf)
    refine ⟨rfl, ?_⟩
    ((repeat ((conv => whnf); first | refine brT ?_ | refine brF ?_)); conv => whnf)
    refine ⟨rfl, rfl, ⟨rfl, flats_ints _, trivial⟩, ?_⟩
    ((repeat ((conv => whnf); first | refine brT ?_ | refine brF ?_)); conv => whnf)
    refine ⟨(upRow_len hk).symm, rfl, k, rfl, by rw [upRow_len hk]; exact hlt, ?_⟩
    ((repeat ((conv => whnf); first | refine brT ?_ | refine brF ?_)); conv => whnf)
    refine ⟨by simp, (upRow_len hk).symm, rfl, .nil, .nil, curRow ps k (List.replicate ps.length 11), upRow_at hlt, rfl, rfl, upRow_set hlt _, ?_⟩
    ((repeat ((conv => whnf); first | refine brT ?_ | refine brF ?_)); conv => whnf)
    refine ⟨_, knownParents_spec ps[k], ?_⟩
    ((repeat ((conv => whnf); first | refine brT ?_ | refine brF ?_)); conv => whnf)
    intro _
    ((repeat ((conv => whnf); first | refine brT ?_ | refine brF ?_)); conv => whnf)
    have hkn := kn_in hp hlt
    have hgood := fun i (hi : i < k) => (cl_good hp hs k hk i hi).1
    generalize hqs : known ps[k] = qs at hkn
    have hq2 : qs.length ≤ 2 := by rw [← hqs]; exact known_two _
    have hQ : (qs.map intLV).length = qs.length := List.length_map ..
    rw [hQ]
    refine loop_ruleR (α := Nat) [.old 0, .old 1, .old 2, .old 3, .old 4] (fun j => [(33, .int .i64 (j : Int))])
      (fun j => [.box (famLV ps us), .tree 29 1 (curRow ps k (clP (clTo ps k) ps.length qs j)), .box ps[k].lv, .arr 3 1 [.int .i64 11], .dead]) (fun j => qs.length - j) (fun j => j ≤ qs.length) 0 (Nat.zero_le _) ?_ ?_
    · refine ⟨?_, ⟨rfl, rfl, rfl, rfl, rfl, rfl, rfl, rfl, rfl, rfl, trivial⟩, rfl⟩
      ((repeat ((conv => whnf); refine ⟨rfl, rfl, ?_⟩)); trivial)
    intro j hj
    generalize hK2 : kk _ = KK2
    ((repeat ((conv => whnf); first | refine brT ?_ | refine brF ?_)); conv => whnf)
    (refine ⟨fun g2 => ?_, fun g2 => ?_⟩ <;> rw [g2])
    · have hlj : j < qs.length := by rw [ltI_t] at g2; omega
      have ej := step_i hlj (by unfold Go.maxLen; omega)
      obtain ⟨x0, x1⟩ := hkn qs[j] (List.getElem_mem hlj)
      have hcl := clP_len (up := clTo ps k) (n := ps.length) (qs := qs) (fun x hx => hgood _ (hkn x hx).2) j (by omega)
      have hg2 := hgood _ x1
      generalize hR : clP (clTo ps k) ps.length qs j = R at hcl
      generalize hPr : (clTo ps k).getD qs[j].toNat [] = Pr at hg2
      have hPrL : (Pr.map intLV).length = ps.length := by rw [List.length_map, hg2]
      ((repeat ((conv => whnf); first | refine brT ?_ | refine brF ?_)); conv => whnf)
      refine ⟨j, intLV qs[j], rfl, by simp [hlj], rfl, ?_⟩
      ((repeat ((conv => whnf); first | refine brT ?_ | refine brF ?_)); conv => whnf)
      refine ⟨(curRow_len hlt).symm, rfl, qs[j].toNat, by omega, by rw [curRow_len hlt]; omega, ?_⟩
      ((repeat ((conv => whnf); first | refine brT ?_ | refine brF ?_)); conv => whnf)
      refine ⟨(curRow_len hlt).symm, rowSl Pr, .sl (Pr.map intLV), by rw [curRow_lt x1, hPr], rfl, ?_⟩
      ((repeat ((conv => whnf); first | refine brT ?_ | refine brF ?_)); conv => whnf)
      refine ⟨rfl, rfl, ?_⟩
      ((repeat ((conv => whnf); first | refine brT ?_ | refine brF ?_)); conv => whnf)
      intro _
      ((repeat ((conv => whnf); first | refine brT ?_ | refine brF ?_)); conv => whnf)
      rw [hPrL]
      refine loop_ruleR (α := Nat) [.old 0, .old 1, .old 2, .old 3, .old 4] (fun q => [(42, .int .i64 (q : Int))])
        (fun q => [.box (famLV ps us), .tree 29 1 (curRow ps k (clQ R Pr q)), .box ps[k].lv, .arr 3 1 [.int .i64 11], .dead]) (fun q => ps.length - q) (fun q => q ≤ ps.length) 0 (Nat.zero_le _) ?_ ?_
      · refine ⟨?_, ⟨rfl, rfl, rfl, rfl, rfl, rfl, rfl, rfl, rfl, rfl, trivial⟩, rfl⟩
        ((repeat ((conv => whnf); refine ⟨rfl, rfl, ?_⟩)); trivial)
      intro q hq
      generalize hK3 : kk _ = KK3
      ((repeat ((conv => whnf); first | refine brT ?_ | refine brF ?_)); conv => whnf)
      (refine ⟨fun g3 => ?_, fun g3 => ?_⟩ <;> rw [g3])
      · have hlq : q < ps.length := by rw [ltI_t] at g3; omega
        have eq := step_i hlq hp'
        have hQl := clQ_len hcl hg2 (show q ≤ ps.length by omega)
        have hQg := clQ_at hcl hg2 hlq
        have hQs := clQ_set hcl hg2 hlq
        have hPb : 0 ≤ Pr.getD q 0 ∧ Pr.getD q 0 ≤ 11 := by rw [← hPr]; exact cl_bound hp hs hk x1 hlq
        ((repeat ((conv => whnf); first | refine brT ?_ | refine brF ?_)); conv => whnf)
        refine ⟨q, intLV (Pr.getD q 0), rfl, intL_at (by omega), rfl, ?_⟩
        ((repeat ((conv => whnf); first | refine brT ?_ | refine brF ?_)); conv => whnf)
        refine ⟨false, 15, by kernel_rfl, ?_⟩
        ((repeat ((conv => whnf); first | refine brT ?_ | refine brF ?_)); conv => whnf)
        refine ⟨(curRow_len hlt).symm, rfl, k, rfl, by rw [curRow_len hlt]; exact hlt, ?_⟩
        ((repeat ((conv => whnf); first | refine brT ?_ | refine brF ?_)); conv => whnf)
        refine ⟨(curRow_len hlt).symm, rowOw (clQ R Pr q), rowOw (clQ R Pr q), curRow_at _ _ _, rfl, ?_⟩
        ((repeat ((conv => whnf); first | refine brT ?_ | refine brF ?_)); conv => whnf)
        have hSL : ∀ v : LV, ((curRow ps k (clQ R Pr q)).set k v).length = ps.length := fun v => by rw [List.length_set, curRow_len hlt]
        refine ⟨(hSL _).symm, rfl, k, rfl, by rw [hSL]; exact hlt, ?_⟩
        ((repeat ((conv => whnf); first | refine brT ?_ | refine brF ?_)); conv => whnf)
        have hSA : ((curRow ps k (clQ R Pr q)).set k (.tup []))[k]? = some (.tup []) := List.getElem?_set_self (by rw [curRow_len hlt]; exact hlt)
        refine .inl ⟨rfl, (hSL .nil).symm, hSA, rfl, ?_⟩
        ((repeat ((conv => whnf); first | refine brT ?_ | refine brF ?_)); conv => whnf)
        have hgq : getP (.st ((clQ R Pr q).map intLV)) [q] = some (intLV ((clQ R Pr q).getD q 0)) := by simp only [getP]; rw [intL_at (g := clQ R Pr q) (i := q) (by rw [hQl]; exact hlq)]
        have hRl : ((clQ R Pr q).map intLV).length = ps.length := by rw [List.length_map, hQl]
        refine ⟨rfl, rfl, q, rfl, by rw [hRl]; exact hlq, ?_⟩
        ((repeat ((conv => whnf); first | refine brT ?_ | refine brF ?_)); conv => whnf)
        refine ⟨rfl, by simp, intLV ((clQ R Pr q).getD q 0), hgq, rfl, ?_⟩
        ((repeat ((conv => whnf); first | refine brT ?_ | refine brF ?_)); conv => whnf)
        refine ⟨rfl, rfl, q, rfl, by rw [hRl]; exact hlq, ?_⟩
        ((repeat ((conv => whnf); first | refine brT ?_ | refine brF ?_)); conv => whnf)
        refine ⟨rfl, q, [], intLV ((clQ R Pr q).getD q 0), rfl, hgq, rfl, rfl, rfl, (clQ R Pr (q + 1)).map intLV, ?_, ?_⟩
        · rw [intL_at (g := clQ R Pr q) (i := q) (by rw [hQl]; exact hlq), wrap64 (by omega) (by omega), ← hQs, hQg, List.map_set]; rfl
        ((repeat ((conv => whnf); first | refine brT ?_ | refine brF ?_)); conv => whnf)
        subst hK3
        refine round_endR [.old 0, .old 1, .old 2, .old 3, .old 4] (q + 1) hlq (by omega) ⟨?_, ⟨?_, ?_⟩, rfl⟩
        · ((repeat ((conv => whnf); first | refine ⟨rfl, eq, ?_⟩ | refine ⟨rfl, rfl, ?_⟩)); trivial)
        · rw [List.length_map, List.length_map, hQl, clQ_len hcl hg2 (show q + 1 ≤ ps.length by omega)]
        · have heq : (curRow ps k (clQ R Pr q)).set k (rowOw (clQ R Pr (q + 1))) = curRow ps k (clQ R Pr (q + 1)) := by rw [curRow_set]; rfl
          ((repeat ((conv => whnf); first | refine brT ?_ | refine brF ?_)); conv => whnf)
          exact ⟨rfl, rfl, rfl, congrArg (Blk.tree 29 1) heq, rfl, rfl, rfl, rfl, rfl, rfl, trivial⟩
      · have h4 : q = ps.length := by rw [ltI_f] at g3; omega
        subst h4
        subst hK3
        have hnx : clQ R Pr ps.length = clP (clTo ps k) ps.length qs (j + 1) := by rw [clQ_all hcl hg2, clP_succ hlj, hR, hPr]
        rw [hnx]
        ((repeat ((conv => whnf); first | refine brT ?_ | refine brF ?_)); conv => whnf)
        subst hK2
        refine round_endR [.old 0, .old 1, .old 2, .old 3, .old 4] (j + 1) hlj (by omega) ⟨?_, ⟨rfl, rfl, rfl, rfl, rfl, rfl, rfl, rfl, rfl, rfl, trivial⟩, rfl⟩
        ((repeat ((conv => whnf); first | refine ⟨rfl, ej, ?_⟩ | refine ⟨rfl, rfl, ?_⟩)); trivial)
    · have h4 : j = qs.length := by rw [ltI_f] at g2; omega
      subst h4
      subst hK2
      have hfin : clP (clTo ps k) ps.length qs qs.length = clRow0 (clTo ps k) ps.length k qs := by unfold clP clRow0; rw [List.take_of_length_le (Nat.le_refl _)]
      have hfl := clP_len (up := clTo ps k) (n := ps.length) (qs := qs) (fun x hx => hgood _ (hkn x hx).2) qs.length (Nat.le_refl _)
      rw [hfin] at hfl ⊢
      have hnx : (clRow0 (clTo ps k) ps.length k qs).set k 0 = (clRow0 (clTo ps k) ps.length k (known ps[k])).set k 0 := by rw [hqs]
      generalize clRow0 (clTo ps k) ps.length k qs = R at hfl hnx ⊢
      ((repeat ((conv => whnf); first | refine brT ?_ | refine brF ?_)); conv => whnf)
      refine ⟨(curRow_len hlt).symm, rfl, k, rfl, by rw [curRow_len hlt]; exact hlt, ?_⟩
      ((repeat ((conv => whnf); first | refine brT ?_ | refine brF ?_)); conv => whnf)
      refine ⟨(curRow_len hlt).symm, rowOw R, rowOw R, curRow_at _ _ _, rfl, ?_⟩
      ((repeat ((conv => whnf); first | refine brT ?_ | refine brF ?_)); conv => whnf)
      have hRl : (R.map intLV).length = ps.length := by rw [List.length_map, hfl]
      have hgq : getP (.st (R.map intLV)) [k] = some (intLV (R.getD k 0)) := by simp only [getP]; rw [intL_at (g := R) (i := k) (by rw [hfl]; exact hlt)]
      refine ⟨rfl, rfl, k, rfl, by rw [hRl]; exact hlt, ?_⟩
      ((repeat ((conv => whnf); first | refine brT ?_ | refine brF ?_)); conv => whnf)
      refine ⟨rfl, k, [], intLV (R.getD k 0), rfl, hgq, rfl, rfl, rfl, (R.set k 0).map intLV, ?_, ?_⟩
      · rw [intL_at (g := R) (i := k) (by rw [hfl]; exact hlt), List.map_set]; rfl
      ((repeat ((conv => whnf); first | refine brT ?_ | refine brF ?_)); conv => whnf)
      subst hK
      refine round_endF 1 k [.old 0, .old 1] (k + 1) hlt (by omega) ⟨?_, ⟨?_, ?_⟩, rfl⟩
      · ((repeat ((conv => whnf); first | refine ⟨rfl, e, ?_⟩ | refine ⟨rfl, rfl, ?_⟩)); trivial)
      · rw [List.length_map, List.length_map, List.length_set]
      · have hSA : ((curRow ps k R).set k (rowOw (R.set k 0)))[k]? = some (rowOw (R.set k 0)) := List.getElem?_set_self (by rw [curRow_len hlt]; exact hlt)
        have heq : ((curRow ps k R).set k (rowOw (R.set k 0))).set k (rowSl (R.set k 0)) = upRow ps (k + 1) := by rw [List.set_set, curRow_set]; exact curRow_fz hlt hnx
        ((repeat ((conv => whnf); first | refine brT ?_ | refine brF ?_)); conv => whnf)
        refine ⟨29, 1, _, rowOw (R.set k 0), rfl, hSA, ?_⟩
        ((repeat ((conv => whnf); first | refine brT ?_ | refine brF ?_)); conv => whnf)
        exact ⟨rfl, rfl, rfl, congrArg (Blk.tree 29 1) heq, trivial⟩
  · have h4 : k = ps.length := by rw [ltI_f] at g1; omega
    subst h4
    subst hK
    have hu : upRow ps ps.length = (clT ps).map rowSl := by simp [upRow, clT]
    have hl2 : ((clT ps).map rowSl).length = ps.length := by rw [List.length_map]; exact clTo_len ps _
    rw [hu, hl2]
    ((repeat ((conv => whnf); first | refine brT ?_ | refine brF ?_)); conv => whnf)
    exact ⟨[.hs 0 ps.length], rfl, rfl, .inr ⟨[.old 1], ⟨rfl, rfl, trivial⟩, ⟨rfl, rfl, trivial⟩, rfl⟩⟩
theorem dms_rowSl (T : List (List Int)) : dms (T.map rowSl) = T.map rowSl := by
  rw [dms_map, List.map_map]; rfl
theorem climbs_f (ps : List Per) (us : List Uni) (hl : ps.length ≤ 40) (hp : parsIn ps) (hs : shallow (depths ps) = true) :
    FSpec env.P 91 [famLV ps us] (.own 29 1 ((clT ps).map rowSl)) := by
  have hl2 : ((clT ps).map rowSl).length = ps.length := by rw [List.length_map]; exact clTo_len ps _
  refine FSpec_of_tree (climbs_h ps us hl hp hs) ?_
  rw [dms_rowSl, hl2]
  rw [← hl2]
  simp [exW]
end Go.Proofs.YtgkjafmmekjjlaaGreat
namespace Go.Proofs.YtgkjafmmekjjlaaGreat
open Go.Lg Go.Pm
def parS (p : Per) (sx : Int) : Int := match eqI sx 1 with | true => p.father | false => p.mother
def foNx (ds : List Int) (k : Nat) (x : Int) : Int := match eqI x (-1) with | true => (k : Int) | false => ds.getD x.toNat 0
def foTo (ps : List Per) (sx : Int) : Nat → List Int
  | 0 => []
  | k + 1 => foTo ps sx k ++ [match ps[k]? with | some p => foNx (foTo ps sx k) k (parS p sx) | none => 0]
theorem foTo_len (ps : List Per) (sx : Int) : ∀ k, (foTo ps sx k).length = k
  | 0 => rfl
  | k + 1 => by simp [foTo, foTo_len ps sx k]
theorem foTo_succ {ps : List Per} {sx : Int} {k : Nat} (h : k < ps.length) : foTo ps sx (k + 1) = foTo ps sx k ++ [foNx (foTo ps sx k) k (parS ps[k] sx)] := by
  simp [foTo, h]
theorem foTo_get (ps : List Per) (sx : Int) {i k : Nat} (h : i < k) : ∀ n, k ≤ n → (foTo ps sx n).getD i 0 = (foTo ps sx k).getD i 0 := by
  intro n hn
  induction n with
  | zero => omega
  | succ n ih =>
    rcases Nat.lt_or_ge n k with h1 | h1
    · have : k = n + 1 := by omega
      subst this; rfl
    · have e := ih h1
      rw [← e]
      simp only [foTo, List.getD_eq_getElem?_getD]
      rw [List.getElem?_append_left (by rw [foTo_len]; omega)]
def foAt (ps : List Per) (sx : Int) (i : Nat) : Int := (foTo ps sx ps.length).getD i 0
theorem parS_in {ps : List Per} (hp : parsIn ps) {sx : Int} {i : Nat} (h : i < ps.length) : parIn (parS ps[i] sx) i := by
  unfold parS; split
  · exact (hp i h).1
  · exact (hp i h).2
theorem foAt_rec {ps : List Per} (hp : parsIn ps) {sx : Int} {i : Nat} (h : i < ps.length) : foAt ps sx i = (match eqI (parS ps[i] sx) (-1) with | true => (i : Int) | false => foAt ps sx (parS ps[i] sx).toNat) := by
  have h0 := foTo_get ps sx (i := i) (k := i + 1) (by omega) ps.length (by omega)
  unfold foAt
  rw [h0, foTo_succ h, List.getD_eq_getElem?_getD, List.getElem?_append_right (by rw [foTo_len]; exact Nat.le_refl _), foTo_len, Nat.sub_self]
  show foNx _ _ _ = _
  unfold foNx
  cases he : eqI (parS ps[i] sx) (-1) with
  | true => rfl
  | false =>
    have hx := parS_in hp (sx := sx) h
    rw [eqI_f] at he
    rcases hx with hx | ⟨hx, hy⟩
    · exact absurd hx he
    · exact (foTo_get ps sx (i := (parS ps[i] sx).toNat) (k := i) (by omega) ps.length (by omega)).symm
def fos (ps : List Per) (sx : Int) : List Int := foTo ps sx ps.length
theorem fos_len (ps : List Per) (sx : Int) : (fos ps sx).length = ps.length := foTo_len ps sx _
theorem fos_get {ps : List Per} {sx : Int} {i : Nat} (h : i < ps.length) : (fos ps sx)[i]? = some (foAt ps sx i) := by
  have hl : i < (fos ps sx).length := by rw [fos_len]; exact h
  rw [List.getElem?_eq_getElem hl]
  unfold foAt
  rw [List.getD_eq_getElem?_getD, show foTo ps sx ps.length = fos ps sx from rfl, List.getElem?_eq_getElem hl]; rfl
def foRow (ps : List Per) (sx : Int) (k : Nat) : List LV := (foTo ps sx k ++ (unit ps.length).drop k).map intLV
theorem foRow_len {ps : List Per} {sx : Int} {k : Nat} (h : k ≤ ps.length) : (foRow ps sx k).length = ps.length := by
  simp [foRow, foTo_len, unit_len]; omega
theorem foRow_lt {ps : List Per} {sx : Int} {k i : Nat} (h : i < k) : (foRow ps sx k)[i]? = some (intLV ((foTo ps sx k).getD i 0)) := by
  have hl : i < (foTo ps sx k).length := by rw [foTo_len]; exact h
  unfold foRow
  rw [List.getElem?_map, List.getElem?_append_left hl, List.getD_eq_getElem?_getD, List.getElem?_eq_getElem hl]; rfl
theorem foRow_at {ps : List Per} {sx : Int} {k : Nat} (h : k < ps.length) : (foRow ps sx k)[k]? = some (intLV (k : Int)) := by
  unfold foRow
  rw [List.getElem?_map, List.getElem?_append_right (by rw [foTo_len]; exact Nat.le_refl _), foTo_len, Nat.sub_self, List.getElem?_drop, Nat.add_zero, List.getElem?_eq_getElem (by rw [unit_len]; exact h)]
  simp [unit]
theorem foRow_set {ps : List Per} {sx : Int} {k : Nat} (h : k < ps.length) {v : Int} (e : foNx (foTo ps sx k) k (parS ps[k] sx) = v) : (foRow ps sx k).set k (intLV v) = foRow ps sx (k + 1) := by
  subst e
  unfold foRow
  rw [foTo_succ h, List.drop_eq_getElem_cons (by rw [unit_len]; exact h), List.map_append, List.map_cons, List.set_append_right _ _ (by simp [foTo_len])]
  simp [foTo_len]
theorem foRow_same {ps : List Per} {sx : Int} {k : Nat} (h : k < ps.length) (e : eqI (parS ps[k] sx) (-1) = true) : foRow ps sx k = foRow ps sx (k + 1) := by
  have := foRow_set (sx := sx) h (v := (k : Int)) (by unfold foNx; rw [e])
  rw [← this]
  apply List.ext_getElem?
  intro i
  rw [List.getElem?_set]
  split
  · rename_i hi
    subst hi
    rw [if_pos (by rw [foRow_len (by omega)]; exact h), foRow_at h]
  · rfl
theorem parentOfSex_spec (p : Per) (sx : Int) : FSpec env.P 119 [p.lv, .int .i64 sx] (.int .i64 (parS p sx)) := by
  refine FSpec_of_code env_ok (fn := Tryz.f119) Tryz.func119 rfl Tryz.call119 _ _ ?_
  ((repeat ((conv => whnf); first | refine brT ?_ | refine brF ?_)); conv => whnf)
  (refine ⟨fun h => ?_, fun h => ?_⟩ <;> rw [h])
  · ((repeat ((conv => whnf); first | refine brT ?_ | refine brF ?_)); conv => whnf)
    refine ⟨rfl, ?_, List.nodup_nil⟩; simp [parS, h]
  · ((repeat ((conv => whnf); first | refine brT ?_ | refine brF ?_)); conv => whnf)
    refine ⟨rfl, ?_, List.nodup_nil⟩; simp [parS, h]
theorem foundersOf_h (ps : List Per) (us : List Uni) (sx : Int) (hl : ps.length ≤ 40) (hp : parsIn ps) :
    HSpec env.P 92 [famLV ps us, .int .i64 sx] [] (.hs 0 ((fos ps sx).map intLV).length) [.arr 3 1 ((fos ps sx).map intLV)] := by
  refine HSpec_of_code (E := env.x [118] 0) env_ok.x (fn := Tryz.f92) Tryz.func92 rfl Tryz.call92 _ _ _ _ ?_
  have hL : (ps.map Per.lv).length = ps.length := List.length_map ..
  ((repeat ((conv => whnf); first | refine brT ?_ | refine brF ?_)); conv => whnf)
  intro hn
  ((repeat ((conv => whnf); first | refine brT ?_ | refine brF ?_)); conv => whnf)
  refine ⟨[], _, _, _, _, identity_h (ps.map Per.lv).length (by omega), rfl, rfl, rfl, trivial, ?_⟩
  ((repeat ((conv => whnf); first | refine brT ?_ | refine brF ?_)); conv => whnf)
  intro hn2
  ((repeat ((conv => whnf); first | refine brT ?_ | refine brF ?_)); conv => whnf)
  refine loop_rule (α := Nat) (fun k => [(16, .int .i64 (k : Int))]) (fun k => [.box (famLV ps us), .arr 3 1 (foRow ps sx k)]) (fun k => ps.length - k) (fun k => k ≤ ps.length) 0 (Nat.zero_le _) ?_ ?_
  · refine ⟨?_, ⟨rfl, by simp [foRow, foTo, hL], trivial⟩, rfl, rfl⟩
    ((repeat ((conv => whnf); refine ⟨rfl, ?_⟩)); trivial)
  intro k hk
  have hr : ((unit (ps.map Per.lv).length).map intLV).length = (foRow ps sx k).length := by rw [foRow_len hk, List.length_map, unit_len, hL]
  ((repeat ((conv => whnf); first | refine brT ?_ | refine brF ?_)); conv => whnf)
  (refine ⟨fun h1 => ?_, fun h1 => ?_⟩ <;> rw [h1])
  · have hlt : k < ps.length := by rw [ltI_t] at h1; simp at h1; omega
    have e := step_i hlt (by unfold Go.maxLen; omega)
    have hx := parS_in hp (sx := sx) hlt
    ((repeat ((conv => whnf); first | refine brT ?_ | refine brF ?_)); conv => whnf)
    refine ⟨k, ps[k].lv, rfl, by simp [hlt], rfl, ?_⟩
    ((repeat ((conv => whnf); first | refine brT ?_ | refine brF ?_)); conv => whnf)
    refine ⟨_, parentOfSex_spec ps[k] sx, ?_⟩
    ((repeat ((conv => whnf); first | refine brT ?_ | refine brF ?_)); conv => whnf)
    (refine ⟨fun h2 => ?_, fun h2 => ?_⟩ <;> rw [h2])
    · rw [notB_t] at h2
      have h2' := eqI_f.1 h2
      obtain ⟨hx0, hx1⟩ : 0 ≤ parS ps[k] sx ∧ parS ps[k] sx < k := hx.resolve_left h2'
      have hxn : parS ps[k] sx = ((parS ps[k] sx).toNat : Int) := by omega
      have hxk : (parS ps[k] sx).toNat < k := by omega
      ((repeat ((conv => whnf); first | refine brT ?_ | refine brF ?_)); conv => whnf)
      refine ⟨hr, rfl, (parS ps[k] sx).toNat, hxn, by rw [foRow_len hk]; omega, ?_⟩
      ((repeat ((conv => whnf); first | refine brT ?_ | refine brF ?_)); conv => whnf)
      refine ⟨hr, by simp, intLV ((foTo ps sx k).getD (parS ps[k] sx).toNat 0), by simp only [getP]; rw [foRow_lt hxk], rfl, ?_⟩
      ((repeat ((conv => whnf); first | refine brT ?_ | refine brF ?_)); conv => whnf)
      refine ⟨hr, rfl, k, rfl, by rw [foRow_len hk]; omega, ?_⟩
      ((repeat ((conv => whnf); first | refine brT ?_ | refine brF ?_)); conv => whnf)
      refine ⟨hr, k, [], intLV (k : Int), rfl, by simp only [getP]; rw [foRow_at hlt], rfl, rfl, rfl, foRow ps sx (k + 1), by rw [foRow_at hlt]; exact foRow_set hlt (by unfold foNx; rw [h2]), ?_⟩
      ((repeat ((conv => whnf); first | refine brT ?_ | refine brF ?_)); conv => whnf)
      refine round_end (k + 1) hlt (by omega) ⟨?_, ⟨rfl, rfl, trivial⟩, rfl, rfl⟩
      ((repeat ((conv => whnf); first | refine ⟨e, ?_⟩ | refine ⟨rfl, ?_⟩)); trivial)
    · rw [notB_f] at h2
      ((repeat ((conv => whnf); first | refine brT ?_ | refine brF ?_)); conv => whnf)
      refine round_end (k + 1) hlt (by omega) ⟨?_, ⟨rfl, congrArg (Blk.arr 3 1) (foRow_same hlt h2), trivial⟩, rfl, rfl⟩
      ((repeat ((conv => whnf); first | refine ⟨e, ?_⟩ | refine ⟨rfl, ?_⟩)); trivial)
  · have h3 : k = ps.length := by rw [ltI_f] at h1; simp at h1; omega
    subst h3
    have e5 : foRow ps sx ps.length = (fos ps sx).map intLV := by simp [foRow, fos, unit_len]
    have e6 : ((fos ps sx).map intLV).length = ((unit (ps.map Per.lv).length).map intLV).length := by rw [hr, e5]
    ((repeat ((conv => whnf); first | refine brT ?_ | refine brF ?_)); conv => whnf)
    exact ⟨[.hs 0 ((unit (ps.map Per.lv).length).map intLV).length], by simp only [tupOf]; rw [e6], rfl, .inr ⟨[.old 1], ⟨rfl, rfl, trivial⟩, ⟨rfl, congrArg (Blk.arr 3 1) e5, trivial⟩, rfl⟩⟩
theorem foundersOf_f (ps : List Per) (us : List Uni) (sx : Int) (hl : ps.length ≤ 40) (hp : parsIn ps) : FSpec env.P 92 [famLV ps us, .int .i64 sx] (rowOw (fos ps sx)) := ints_f (foundersOf_h ps us sx hl hp)
theorem l7Founder_spec (ps : List Per) (us : List Uni) (p : Nat) (sx : Int) (hs : sx = 1 ∨ sx = 2) (hp : parsIn ps) (h : p < ps.length) :
    FSpec env.P 82 [famLV ps us, .int .i64 (p : Int), .int .i64 sx] (.int .i64 (foAt ps sx p)) := by
  refine FSpec_of_code env_ok (fn := Tryz.f82) Tryz.func82 rfl Tryz.call82 _ _ ?_
  ((repeat ((conv => whnf); first | refine brT ?_ | refine brF ?_)); conv => whnf)
  refine loop_rule (α := Nat) (fun k => [(1, .int .i64 (k : Int))]) (fun k => [.box (famLV ps us)]) (fun k => k) (fun k => k < ps.length ∧ foAt ps sx k = foAt ps sx p) p ⟨h, rfl⟩ ?_ ?_
  · refine ⟨?_, ⟨rfl, trivial⟩, rfl, rfl⟩
    ((repeat ((conv => whnf); refine ⟨rfl, ?_⟩)); trivial)
  rintro k ⟨hk, hf⟩
  have hx := parS_in hp (sx := sx) hk
  have hrec := foAt_rec hp (sx := sx) hk
  ((repeat ((conv => whnf); first | refine brT ?_ | refine brF ?_)); conv => whnf)
  refine ⟨k, ps[k].lv, rfl, by simp [hk], rfl, ?_⟩
  ((repeat ((conv => whnf); first | refine brT ?_ | refine brF ?_)); conv => whnf)
  (refine ⟨fun h1 => ?_, fun h1 => ?_⟩ <;> rw [h1])
  · have hsx : sx = 2 := eqI_t.1 h1
    have e1 : parS ps[k] sx = ps[k].mother := by subst hsx; unfold parS; rw [show eqI 2 1 = false by rw [eqI_f]; decide]
    rw [e1] at hx hrec
    ((repeat ((conv => whnf); first | refine brT ?_ | refine brF ?_)); conv => whnf)
    refine ⟨k, ps[k].lv, rfl, by simp [hk], rfl, ?_⟩
    ((repeat ((conv => whnf); first | refine brT ?_ | refine brF ?_)); conv => whnf)
    (refine ⟨fun h2 => ?_, fun h2 => ?_⟩ <;> rw [h2])
    · rw [ltI_t] at h2
      have : ps[k].mother = -1 := by rcases hx with hx | hx <;> omega
      ((repeat ((conv => whnf); first | refine brT ?_ | refine brF ?_)); conv => whnf)
      refine ⟨rfl, ?_, List.nodup_nil⟩
      rw [← hf, hrec, this]
      rw [show eqI (-1) (-1) = true from eqI_refl _]
    · rw [ltI_f] at h2
      have hne : eqI ps[k].mother (-1) = false := by rw [eqI_f]; omega
      have hx2 : ps[k].mother < k := by rcases hx with hx | hx <;> omega
      rw [hne] at hrec
      have e : LV.int .i64 ps[k].mother = LV.int .i64 ((ps[k].mother.toNat : Nat) : Int) := by congr 1; omega
      ((repeat ((conv => whnf); first | refine brT ?_ | refine brF ?_)); conv => whnf)
      refine round_end ps[k].mother.toNat ⟨by omega, by rw [← hf, hrec]⟩ (by omega) ⟨?_, ⟨rfl, trivial⟩, rfl, rfl⟩
      ((repeat ((conv => whnf); first | refine ⟨e, ?_⟩ | refine ⟨rfl, ?_⟩)); trivial)
  · have hsx : sx = 1 := by rw [eqI_f] at h1; omega
    have e1 : parS ps[k] sx = ps[k].father := by subst hsx; unfold parS; rw [eqI_refl]
    rw [e1] at hx hrec
    ((repeat ((conv => whnf); first | refine brT ?_ | refine brF ?_)); conv => whnf)
    (refine ⟨fun h2 => ?_, fun h2 => ?_⟩ <;> rw [h2])
    · rw [ltI_t] at h2
      have : ps[k].father = -1 := by rcases hx with hx | hx <;> omega
      ((repeat ((conv => whnf); first | refine brT ?_ | refine brF ?_)); conv => whnf)
      refine ⟨rfl, ?_, List.nodup_nil⟩
      rw [← hf, hrec, this]
      rw [show eqI (-1) (-1) = true from eqI_refl _]
    · rw [ltI_f] at h2
      have hne : eqI ps[k].father (-1) = false := by rw [eqI_f]; omega
      have hx2 : ps[k].father < k := by rcases hx with hx | hx <;> omega
      rw [hne] at hrec
      have e : LV.int .i64 ps[k].father = LV.int .i64 ((ps[k].father.toNat : Nat) : Int) := by congr 1; omega
      ((repeat ((conv => whnf); first | refine brT ?_ | refine brF ?_)); conv => whnf)
      refine round_end ps[k].father.toNat ⟨by omega, by rw [← hf, hrec]⟩ (by omega) ⟨?_, ⟨rfl, trivial⟩, rfl, rfl⟩
      ((repeat ((conv => whnf); first | refine ⟨e, ?_⟩ | refine ⟨rfl, ?_⟩)); trivial)
end Go.Proofs.YtgkjafmmekjjlaaGreat
namespace Go.Proofs.YtgkjafmmekjjlaaGreat
open Go.Lg Go.Pm
theorem hasP_in {ps : List Per} {us : List Uni} {p : Int} (h : hasP ps us p = true) : 0 ≤ p ∧ p.toNat < ps.length ∧ ps.length ≤ 40 ∧ parsIn ps := by
  obtain ⟨h0, h1, h2⟩ := hasP_lt h
  obtain ⟨k1, _, k2, _⟩ := famOk_parts h2
  exact ⟨h0, h1, k1, parsIn_of k2⟩
end Go.Proofs.YtgkjafmmekjjlaaGreat
namespace Go.Proofs.YtgkjafmmekjjlaaGreat
open Go.Lg Go.Pm
end Go.Proofs.YtgkjafmmekjjlaaGreat
namespace Go.Proofs.YtgkjafmmekjjlaaGreat
open Go.Lg Go.Pm
def wantL (q : Nat → Bool) (n : Nat) : List Nat := (List.range n).filter q
theorem wantL_succ (q : Nat → Bool) (n : Nat) : wantL q (n + 1) = wantL q n ++ (match q n with | true => [n] | false => []) := by
  unfold wantL
  rw [List.range_succ, List.filter_append]
  congr 1
theorem wantL_lt {q : Nat → Bool} {n x : Nat} (h : x ∈ wantL q n) : x < n := List.mem_range.1 (List.mem_filter.1 h).1
theorem wantL_len (q : Nat → Bool) (n : Nat) : (wantL q n).length ≤ n := by
  unfold wantL; exact Nat.le_trans (List.length_filter_le _ _) (by simp)
end Go.Proofs.YtgkjafmmekjjlaaGreat
namespace Go.Proofs.YtgkjafmmekjjlaaGreat
open Go.Shelf
end Go.Proofs.YtgkjafmmekjjlaaGreat
namespace Go.Proofs.YtgkjafmmekjjlaaGreat
open Go.Lg
end Go.Proofs.YtgkjafmmekjjlaaGreat
namespace Go.Proofs.YtgkjafmmekjjlaaGreat
open Go.Lg
end Go.Proofs.YtgkjafmmekjjlaaGreat
namespace Go.Proofs.YtgkjafmmekjjlaaGreat
open Go.Lg
end Go.Proofs.YtgkjafmmekjjlaaGreat
namespace Go.Proofs.YtgkjafmmekjjlaaGreat
open Go.Lg
end Go.Proofs.YtgkjafmmekjjlaaGreat
namespace Go.Proofs.YtgkjafmmekjjlaaGreat
open Go.Lg
end Go.Proofs.YtgkjafmmekjjlaaGreat
namespace Go.Proofs.YtgkjafmmekjjlaaGreat
open Go.Lg
end Go.Proofs.YtgkjafmmekjjlaaGreat
namespace Go.Proofs.YtgkjafmmekjjlaaGreat
open Go.Lg
end Go.Proofs.YtgkjafmmekjjlaaGreat
namespace Go.Proofs.YtgkjafmmekjjlaaGreat
open Go.Lg
end Go.Proofs.YtgkjafmmekjjlaaGreat
namespace Go.Proofs.YtgkjafmmekjjlaaGreat
open Go.Lg
end Go.Proofs.YtgkjafmmekjjlaaGreat
namespace Go.Proofs.YtgkjafmmekjjlaaGreat
open Go.Lg
end Go.Proofs.YtgkjafmmekjjlaaGreat
namespace Go.Proofs.YtgkjafmmekjjlaaGreat
open Go.Lg
end Go.Proofs.YtgkjafmmekjjlaaGreat
namespace Go.Proofs.YtgkjafmmekjjlaaGreat
open Go.Lg
end Go.Proofs.YtgkjafmmekjjlaaGreat
namespace Go.Proofs.YtgkjafmmekjjlaaGreat
open Go.Lg
end Go.Proofs.YtgkjafmmekjjlaaGreat
namespace Go.Proofs.YtgkjafmmekjjlaaGreat
open Go.Lg
end Go.Proofs.YtgkjafmmekjjlaaGreat
namespace Go.Proofs.YtgkjafmmekjjlaaGreat
open Go.Lg
end Go.Proofs.YtgkjafmmekjjlaaGreat
namespace Go.Proofs.YtgkjafmmekjjlaaGreat
open Go.Lg
end Go.Proofs.YtgkjafmmekjjlaaGreat
namespace Go.Proofs.YtgkjafmmekjjlaaGreat
open Go.Lg
end Go.Proofs.YtgkjafmmekjjlaaGreat
namespace Go.Proofs.YtgkjafmmekjjlaaGreat
open Go.Lg
theorem par_one {ps : List Per} {i : Nat} {x sx born : Int} (h : parentOk (ps.take i) x sx born = true) :
    (x = -1 ∨ (0 ≤ x ∧ x.toNat < ps.length)) ∧ ∀ (b : Nat) (hb : b < ps.length), x = (b : Int) → ps[b].sex = sx := by
  unfold parentOk at h
  simp only [Bool.or_eq_true, eqI_t, Bool.and_eq_true, leI_t] at h
  rcases h with h | ⟨h0, h1⟩
  · exact ⟨.inl h, fun b hb e => by omega⟩
  · split at h1
    · cases h1
    · rename_i q hq
      obtain ⟨hl, e⟩ := List.getElem?_eq_some_iff.1 hq
      simp only [Bool.and_eq_true, eqI_t] at h1
      rw [List.length_take] at hl
      rw [List.getElem_take] at e
      refine ⟨.inr ⟨h0, by omega⟩, fun b hb ex => ?_⟩
      have eb : x.toNat = b := by omega
      subst eb
      rw [e]
      exact h1.1
theorem par_sex {ps : List Per} {us : List Uni} (h : famOk ps us = true) {i : Nat} (hi : i < ps.length) :
    ((ps[i].father = -1 ∨ (0 ≤ ps[i].father ∧ ps[i].father.toNat < ps.length)) ∧ ∀ (b : Nat) (hb : b < ps.length), ps[i].father = (b : Int) → ps[b].sex = 1) ∧
    ((ps[i].mother = -1 ∨ (0 ≤ ps[i].mother ∧ ps[i].mother.toNat < ps.length)) ∧ ∀ (b : Nat) (hb : b < ps.length), ps[i].mother = (b : Int) → ps[b].sex = 2) := by
  obtain ⟨_, _, hp, _, _⟩ := famOk_parts h
  obtain ⟨_, _, _, _, _, _, p1, p2⟩ := personOk_spec (personsTo_get hp hi hi)
  exact ⟨par_one p1, par_one p2⟩
theorem far {ps : List Per} {us : List Uni} (h : famOk ps us = true) {i j : Nat} (hi : i < ps.length) (hj : j < ps.length) (e : ps[i].father ≠ -1) : ps[i].father ≠ ps[j].mother := by
  obtain ⟨⟨f1, f2⟩, _⟩ := par_sex h hi
  obtain ⟨_, _, m2⟩ := par_sex h hj
  intro k
  rcases f1 with f1 | ⟨f0, fl⟩
  · exact e f1
  · have a1 := f2 _ fl (by omega)
    have a2 := m2 _ fl (by omega)
    omega
section
variable {ps : List Per} {us : List Uni} {s : Pr} (h : famOk ps us = true)
include h
end
end Go.Proofs.YtgkjafmmekjjlaaGreat
namespace Go.Proofs.YtgkjafmmekjjlaaGreat
open Go.Lg Go.Pm
def rowW (q : Nat → Bool) (k : Nat) : List LV := (wantL q k).map natLV
theorem flats_rowW (q : Nat → Bool) (n : Nat) : flatsB (rowW q n) = true := by
  unfold rowW
  induction wantL q n with
  | nil => rfl
  | cons x l ih => simp [flatsB, flatB, natLV]; exact ih
end Go.Proofs.YtgkjafmmekjjlaaGreat
namespace Go.Proofs.YtgkjafmmekjjlaaGreat
open Go.Lg
theorem WeakS.idn {n0 : Nat} {ts : List LV} {H : List Blk} (h1 : wk ts ts) (h2 : wkH n0 H H) (h3 : (scs (below H.length) ts && H.all (scB (below H.length))) = true) : Weak n0 ts H ts H := by
  simp only [Bool.and_eq_true] at h3
  exact .inl ⟨h1, h2, h3.1, h3.2⟩
end Go.Proofs.YtgkjafmmekjjlaaGreat
namespace Go.Proofs.YtgkjafmmekjjlaaGreat
open Go.Lg
end Go.Proofs.YtgkjafmmekjjlaaGreat
namespace Go.Proofs.YtgkjafmmekjjlaaGreat
open Go.Lg
theorem markPers_get (k : Nat) : ∀ {n i : Nat}, i < n → (markPers k n)[i]? = some (markPer (k + 6 * i))
  | 0, _, h => by omega
  | n + 1, i, h => by
    unfold markPers
    by_cases hi : i < n
    · rw [List.getElem?_append_left (by rw [markPers_len]; exact hi)]; exact markPers_get k hi
    · have : i = n := by omega
      subst this
      rw [List.getElem?_append_right (by rw [markPers_len]; exact Nat.le_refl _), markPers_len, Nat.sub_self]; rfl
theorem markUnis_get (k : Nat) : ∀ {n i : Nat}, i < n → (markUnis k n)[i]? = some (markUni (k + 4 * i))
  | 0, _, h => by omega
  | n + 1, i, h => by
    unfold markUnis
    by_cases hi : i < n
    · rw [List.getElem?_append_left (by rw [markUnis_len]; exact hi)]; exact markUnis_get k hi
    · have : i = n := by omega
      subst this
      rw [List.getElem?_append_right (by rw [markUnis_len]; exact Nat.le_refl _), markUnis_len, Nat.sub_self]; rfl
theorem heldPersonS_spec (k n : Nat) (h1 : k + 6 * n ≤ 2305843009213693952) : FSpec env.P 64 [.sl ((markPers k n).map Per.lv), .int .i64 (k : Int)] (.int .i64 ((k + 6 * n : Nat) : Int)) := by
  refine FSpec_of_code env_ok (fn := Tryz.f64) Tryz.func64 rfl Tryz.call64 _ _ ?_
  have hl : ((markPers k n).map Per.lv).length = n := by simp [markPers_len]
  ((repeat ((conv => whnf); first | refine brT ?_ | refine brF ?_)); conv => whnf)
  refine loop_rule (α := Nat) (fun i => [(5, .int .i64 (i : Int)), (1, .int .i64 ((k + 6 * i : Nat) : Int))]) (fun _ => []) (fun i => n - i) (fun i => i ≤ n) 0 (Nat.zero_le _) ?_ ?_
  · refine ⟨?_, trivial, rfl, rfl⟩
    ((repeat ((conv => whnf); refine ⟨rfl, ?_⟩)); trivial)
  intro i hi
  ((repeat ((conv => whnf); first | refine brT ?_ | refine brF ?_)); conv => whnf)
  intro hm
  rw [hl] at hm
  ((repeat ((conv => whnf); first | refine brT ?_ | refine brF ?_)); conv => whnf)
  rw [hl]
  (refine ⟨fun g1 => ?_, fun g1 => ?_⟩ <;> rw [g1])
  · have hlt : i < n := by rw [ltI_t] at g1; omega
    have e := step_i hlt hm
    have w0 : IntKind.i64.wrap (((k + 6 * i : Nat) : Int) + 1) = ((k + 6 * i : Nat) : Int) + 1 := by rw [wrap64 (by omega) (by omega)]
    have w1 : IntKind.i64.wrap (((k + 6 * i : Nat) : Int) + 1 + 1) = ((k + 6 * i : Nat) : Int) + 2 := by rw [wrap64 (by omega) (by omega)]; omega
    have w2 : IntKind.i64.wrap (((k + 6 * i : Nat) : Int) + 2 + 1) = ((k + 6 * i : Nat) : Int) + 3 := by rw [wrap64 (by omega) (by omega)]; omega
    have w3 : IntKind.i64.wrap (((k + 6 * i : Nat) : Int) + 3 + 1) = ((k + 6 * i : Nat) : Int) + 4 := by rw [wrap64 (by omega) (by omega)]; omega
    have w4 : IntKind.i64.wrap (((k + 6 * i : Nat) : Int) + 4 + 1) = ((k + 6 * i : Nat) : Int) + 5 := by rw [wrap64 (by omega) (by omega)]; omega
    have w5 : IntKind.i64.wrap (((k + 6 * i : Nat) : Int) + 5 + 1) = ((k + 6 * (i + 1) : Nat) : Int) := by rw [wrap64 (by omega) (by omega)]; omega
    have hg0 := markPers_get k hlt
    have hmt := markText_spec (k + 6 * i) (by omega)
    unfold markPer at hg0
    generalize hN : mText (k + 6 * i) = nm at hg0 hmt
    generalize hK : ((k + 6 * i : Nat) : Int) = kk at w0 w1 w2 w3 w4 w5 hg0 hmt ⊢
    have hg : ((markPers k n).map Per.lv)[i]? = some (.st [.str nm, .int .i64 (kk + 1), .int .i64 (kk + 2), .int .i64 (kk + 3), .int .i64 (kk + 4), .int .i64 (kk + 5)]) := by rw [List.getElem?_map, hg0]; rfl
    ((repeat ((conv => whnf); first | refine brT ?_ | refine brF ?_)); conv => whnf)
    refine ⟨true, by kernel_rfl, ?_⟩
    ((repeat ((conv => whnf); first | refine brT ?_ | refine brF ?_)); conv => whnf)
    refine ⟨i, _, rfl, hg, rfl, ?_⟩
    ((repeat ((conv => whnf); first | refine brT ?_ | refine brF ?_)); conv => whnf)
    refine ⟨_, hmt, ?_⟩
    ((repeat ((conv => whnf); first | refine brT ?_ | refine brF ?_)); conv => whnf)
    rw [show notB (eqS nm nm) = false by simp [eqS_refl, notB]]
    ((repeat ((conv => whnf); first | refine brT ?_ | refine brF ?_)); conv => whnf)
    rw [w0]
    refine ⟨i, _, rfl, hg, rfl, ?_⟩
    ((repeat ((conv => whnf); first | refine brT ?_ | refine brF ?_)); conv => whnf)
    rw [show notB (eqI (kk + 1) (kk + 1)) = false by simp [eqI_refl, notB]]
    ((repeat ((conv => whnf); first | refine brT ?_ | refine brF ?_)); conv => whnf)
    rw [w1]
    refine ⟨i, _, rfl, hg, rfl, ?_⟩
    ((repeat ((conv => whnf); first | refine brT ?_ | refine brF ?_)); conv => whnf)
    rw [show notB (eqI (kk + 2) (kk + 2)) = false by simp [eqI_refl, notB]]
    ((repeat ((conv => whnf); first | refine brT ?_ | refine brF ?_)); conv => whnf)
    rw [w2]
    refine ⟨i, _, rfl, hg, rfl, ?_⟩
    ((repeat ((conv => whnf); first | refine brT ?_ | refine brF ?_)); conv => whnf)
    rw [show notB (eqI (kk + 3) (kk + 3)) = false by simp [eqI_refl, notB]]
    ((repeat ((conv => whnf); first | refine brT ?_ | refine brF ?_)); conv => whnf)
    rw [w3]
    refine ⟨i, _, rfl, hg, rfl, ?_⟩
    ((repeat ((conv => whnf); first | refine brT ?_ | refine brF ?_)); conv => whnf)
    rw [show notB (eqI (kk + 4) (kk + 4)) = false by simp [eqI_refl, notB]]
    ((repeat ((conv => whnf); first | refine brT ?_ | refine brF ?_)); conv => whnf)
    rw [w4]
    refine ⟨i, _, rfl, hg, rfl, ?_⟩
    ((repeat ((conv => whnf); first | refine brT ?_ | refine brF ?_)); conv => whnf)
    rw [show notB (eqI (kk + 5) (kk + 5)) = false by simp [eqI_refl, notB]]
    ((repeat ((conv => whnf); first | refine brT ?_ | refine brF ?_)); conv => whnf)
    have e6 : LV.int .i64 (IntKind.i64.wrap (kk + 5 + 1)) = LV.int .i64 ((k + 6 * (i + 1) : Nat) : Int) := by rw [w5]
    refine round_end (i + 1) hlt (by omega) ⟨?_, trivial, rfl, rfl⟩
    repeat ((conv => whnf); first | refine ⟨e, ?_⟩ | refine ⟨e6, ?_⟩ | refine ⟨rfl, ?_⟩)
    trivial
  · have h3 : i = n := by rw [ltI_f] at g1; omega
    subst h3
    ((repeat ((conv => whnf); first | refine brT ?_ | refine brF ?_)); conv => whnf)
    exact ⟨rfl, rfl, List.nodup_nil⟩
theorem heldUnionS_spec (k n : Nat) (h1 : k + 4 * n ≤ 2305843009213693952) : FSpec env.P 65 [.sl ((markUnis k n).map Uni.lv), .int .i64 (k : Int)] (.int .i64 ((k + 4 * n : Nat) : Int)) := by
  refine FSpec_of_code env_ok (fn := Tryz.f65) Tryz.func65 rfl Tryz.call65 _ _ ?_
  have hl : ((markUnis k n).map Uni.lv).length = n := by simp [markUnis_len]
  ((repeat ((conv => whnf); first | refine brT ?_ | refine brF ?_)); conv => whnf)
  refine loop_rule (α := Nat) (fun i => [(5, .int .i64 (i : Int)), (1, .int .i64 ((k + 4 * i : Nat) : Int))]) (fun _ => []) (fun i => n - i) (fun i => i ≤ n) 0 (Nat.zero_le _) ?_ ?_
  · refine ⟨?_, trivial, rfl, rfl⟩
    ((repeat ((conv => whnf); refine ⟨rfl, ?_⟩)); trivial)
  intro i hi
  ((repeat ((conv => whnf); first | refine brT ?_ | refine brF ?_)); conv => whnf)
  intro hm
  rw [hl] at hm
  ((repeat ((conv => whnf); first | refine brT ?_ | refine brF ?_)); conv => whnf)
  rw [hl]
  (refine ⟨fun g1 => ?_, fun g1 => ?_⟩ <;> rw [g1])
  · have hlt : i < n := by rw [ltI_t] at g1; omega
    have e := step_i hlt hm
    have w0 : IntKind.i64.wrap (((k + 4 * i : Nat) : Int) + 1) = ((k + 4 * i : Nat) : Int) + 1 := by rw [wrap64 (by omega) (by omega)]
    have w1 : IntKind.i64.wrap (((k + 4 * i : Nat) : Int) + 1 + 1) = ((k + 4 * i : Nat) : Int) + 2 := by rw [wrap64 (by omega) (by omega)]; omega
    have w2 : IntKind.i64.wrap (((k + 4 * i : Nat) : Int) + 2 + 1) = ((k + 4 * i : Nat) : Int) + 3 := by rw [wrap64 (by omega) (by omega)]; omega
    have w3 : IntKind.i64.wrap (((k + 4 * i : Nat) : Int) + 3 + 1) = ((k + 4 * (i + 1) : Nat) : Int) := by rw [wrap64 (by omega) (by omega)]; omega
    have hg0 := markUnis_get k hlt
    unfold markUni at hg0
    generalize hK : ((k + 4 * i : Nat) : Int) = kk at w0 w1 w2 w3 hg0 ⊢
    have hg : ((markUnis k n).map Uni.lv)[i]? = some (.st [.int .i64 kk, .int .i64 (kk + 1), .int .i64 (kk + 2), .int .i64 (kk + 3)]) := by rw [List.getElem?_map, hg0]; rfl
    ((repeat ((conv => whnf); first | refine brT ?_ | refine brF ?_)); conv => whnf)
    refine ⟨i, _, rfl, hg, rfl, ?_⟩
    ((repeat ((conv => whnf); first | refine brT ?_ | refine brF ?_)); conv => whnf)
    rw [show notB (eqI kk kk) = false by simp [eqI_refl, notB]]
    ((repeat ((conv => whnf); first | refine brT ?_ | refine brF ?_)); conv => whnf)
    rw [w0]
    refine ⟨i, _, rfl, hg, rfl, ?_⟩
    ((repeat ((conv => whnf); first | refine brT ?_ | refine brF ?_)); conv => whnf)
    rw [show notB (eqI (kk + 1) (kk + 1)) = false by simp [eqI_refl, notB]]
    ((repeat ((conv => whnf); first | refine brT ?_ | refine brF ?_)); conv => whnf)
    rw [w1]
    refine ⟨i, _, rfl, hg, rfl, ?_⟩
    ((repeat ((conv => whnf); first | refine brT ?_ | refine brF ?_)); conv => whnf)
    rw [show notB (eqI (kk + 2) (kk + 2)) = false by simp [eqI_refl, notB]]
    ((repeat ((conv => whnf); first | refine brT ?_ | refine brF ?_)); conv => whnf)
    rw [w2]
    refine ⟨i, _, rfl, hg, rfl, ?_⟩
    ((repeat ((conv => whnf); first | refine brT ?_ | refine brF ?_)); conv => whnf)
    rw [show notB (eqI (kk + 3) (kk + 3)) = false by simp [eqI_refl, notB]]
    ((repeat ((conv => whnf); first | refine brT ?_ | refine brF ?_)); conv => whnf)
    have e6 : LV.int .i64 (IntKind.i64.wrap (kk + 3 + 1)) = LV.int .i64 ((k + 4 * (i + 1) : Nat) : Int) := by rw [w3]
    refine round_end (i + 1) hlt (by omega) ⟨?_, trivial, rfl, rfl⟩
    repeat ((conv => whnf); first | refine ⟨e, ?_⟩ | refine ⟨e6, ?_⟩ | refine ⟨rfl, ?_⟩)
    trivial
  · have h3 : i = n := by rw [ltI_f] at g1; omega
    subst h3
    ((repeat ((conv => whnf); first | refine brT ?_ | refine brF ?_)); conv => whnf)
    exact ⟨rfl, rfl, List.nodup_nil⟩
theorem heldFamily_spec (k n m : Nat) (h1 : k + 6 * n + 4 * m ≤ 2305843009213693952) : FSpec env.P 25 [famLV (markPers k n) (markUnis (k + 6 * n) m), .int .i64 (k : Int)] (.int .i64 ((k + 6 * n + 4 * m : Nat) : Int)) := by
  refine FSpec_of_code env_ok (fn := Tryz.f25) Tryz.func25 rfl Tryz.call25 _ _ ?_
  ((repeat ((conv => whnf); first | refine brT ?_ | refine brF ?_)); conv => whnf)
  refine ⟨_, heldPersonS_spec k n (by omega), ?_⟩
  ((repeat ((conv => whnf); first | refine brT ?_ | refine brF ?_)); conv => whnf)
  rw [show ltI ((k + 6 * n : Nat) : Int) 0 = false by rw [ltI_f]; omega]
  ((repeat ((conv => whnf); first | refine brT ?_ | refine brF ?_)); conv => whnf)
  refine ⟨_, heldUnionS_spec (k + 6 * n) m (by omega), ?_⟩
  ((repeat ((conv => whnf); first | refine brT ?_ | refine brF ?_)); conv => whnf)
  rw [show ltI ((k + 6 * n + 4 * m : Nat) : Int) 0 = false by rw [ltI_f]; omega]
  ((repeat ((conv => whnf); first | refine brT ?_ | refine brF ?_)); conv => whnf)
  exact ⟨rfl, rfl, List.nodup_nil⟩
end Go.Proofs.YtgkjafmmekjjlaaGreat
namespace Go.Proofs.YtgkjafmmekjjlaaGreat
open Go.Lg
theorem perSz (ps : List Per) : ∀ y ∈ ps.map Per.lv, y.size = 6 := fun y hy => by obtain ⟨p, _, rfl⟩ := List.mem_map.1 hy; rfl
theorem uniSz (us : List Uni) : ∀ y ∈ us.map Uni.lv, y.size = 4 := fun y hy => by obtain ⟨p, _, rfl⟩ := List.mem_map.1 hy; rfl
theorem clonePer_h (ps : List Per) (h : ps.length ≤ 1048576) : HSpec env.P 63 [.sl (ps.map Per.lv)] [] (.hs 0 (ps.map Per.lv).length) [.arr 85 6 (ps.map Per.lv)] := by
  refine HSpec_of_code (E := env.x [] 0) env_ok.x (fn := Tryz.f63) Tryz.func63 rfl Tryz.call63 _ _ _ _ ?_
  have b1 : ([] ++ ps.map Per.lv).length ≤ Go.maxLen := by rw [List.nil_append, List.length_map]; unfold Go.maxLen; omega
  have b2 : ([] ++ ps.map Per.lv).length * 56 ≤ 140737488355328 := by rw [List.nil_append, List.length_map]; omega
  ((repeat ((conv => whnf); first | refine brT ?_ | refine brF ?_)); conv => whnf)
  refine ⟨fun h0 => ?_, ?_⟩
  · have : ps = [] := by simpa using h0
    subst this
    ((repeat ((conv => whnf); first | refine brT ?_ | refine brF ?_)); conv => whnf)
    exact ⟨[.hs 0 0], rfl, rfl, .nl [.tmp 0 [] false 85 6] [.old 0] ⟨⟨rfl, rfl, trivial⟩, ⟨rfl, rfl, trivial⟩, rfl⟩⟩
  · ((repeat ((conv => whnf); first | refine brT ?_ | refine brF ?_)); conv => whnf)
    refine ⟨perSz ps, rfl, b1, b2, ?_⟩
    ((repeat ((conv => whnf); first | refine brT ?_ | refine brF ?_)); conv => whnf)
    exact ⟨[.hs 0 (ps.map Per.lv).length], rfl, rfl, .inr ⟨[.old 1], ⟨rfl, rfl, trivial⟩, ⟨rfl, rfl, trivial⟩, rfl⟩⟩
theorem cloneUni_h (us : List Uni) (h : us.length ≤ 1048576) : HSpec env.P 61 [.sl (us.map Uni.lv)] [] (.hs 0 (us.map Uni.lv).length) [.arr 89 4 (us.map Uni.lv)] := by
  refine HSpec_of_code (E := env.x [] 0) env_ok.x (fn := Tryz.f61) Tryz.func61 rfl Tryz.call61 _ _ _ _ ?_
  have b1 : ([] ++ us.map Uni.lv).length ≤ Go.maxLen := by rw [List.nil_append, List.length_map]; unfold Go.maxLen; omega
  have b2 : ([] ++ us.map Uni.lv).length * 32 ≤ 140737488355328 := by rw [List.nil_append, List.length_map]; omega
  ((repeat ((conv => whnf); first | refine brT ?_ | refine brF ?_)); conv => whnf)
  refine ⟨fun h0 => ?_, ?_⟩
  · have : us = [] := by simpa using h0
    subst this
    ((repeat ((conv => whnf); first | refine brT ?_ | refine brF ?_)); conv => whnf)
    exact ⟨[.hs 0 0], rfl, rfl, .nl [.tmp 0 [] false 89 4] [.old 0] ⟨⟨rfl, rfl, trivial⟩, ⟨rfl, rfl, trivial⟩, rfl⟩⟩
  · ((repeat ((conv => whnf); first | refine brT ?_ | refine brF ?_)); conv => whnf)
    refine ⟨uniSz us, rfl, b1, b2, ?_⟩
    ((repeat ((conv => whnf); first | refine brT ?_ | refine brF ?_)); conv => whnf)
    exact ⟨[.hs 0 (us.map Uni.lv).length], rfl, rfl, .inr ⟨[.old 1], ⟨rfl, rfl, trivial⟩, ⟨rfl, rfl, trivial⟩, rfl⟩⟩
theorem l1Copy_h (ps : List Per) (us : List Uni) (hp : ps.length ≤ 1048576) (hu : us.length ≤ 1048576) : HSpec env.P 59 [famLV ps us] [] (famHS (ps.map Per.lv).length (us.map Uni.lv).length) [.arr 85 6 (ps.map Per.lv), .arr 89 4 (us.map Uni.lv)] := by
  refine HSpec_of_code (E := env.x [] 0) env_ok.x (fn := Tryz.f59) Tryz.func59 rfl Tryz.call59 _ _ _ _ ?_
  have b1 : (ps.map Per.lv).length ≤ Go.maxLen := by rw [List.length_map]; unfold Go.maxLen; omega
  have b2 : (ps.map Per.lv).length * 56 ≤ 140737488355328 := by rw [List.length_map]; omega
  have b3 : (us.map Uni.lv).length ≤ Go.maxLen := by rw [List.length_map]; unfold Go.maxLen; omega
  have b4 : (us.map Uni.lv).length * 32 ≤ 140737488355328 := by rw [List.length_map]; omega
  ((repeat ((conv => whnf); first | refine brT ?_ | refine brF ?_)); conv => whnf)
  refine ⟨perSz ps, b1, b2, ?_⟩
  ((repeat ((conv => whnf); first | refine brT ?_ | refine brF ?_)); conv => whnf)
  refine ⟨uniSz us, b3, b4, ?_⟩
  ((repeat ((conv => whnf); first | refine brT ?_ | refine brF ?_)); conv => whnf)
  exact ⟨[famHS (ps.map Per.lv).length (us.map Uni.lv).length], rfl, rfl, .inr ⟨[.old 3, .old 4], ⟨rfl, rfl, trivial⟩, ⟨rfl, rfl, rfl, rfl, trivial⟩, rfl⟩⟩
theorem validFamily_yes (ps : List Per) (us : List Uni) (h : famOk ps us = true) : HSpec env.P 62 [famHS (ps.map Per.lv).length (us.map Uni.lv).length] [.arr 85 6 (ps.map Per.lv), .arr 89 4 (us.map Uni.lv)]
    (.tup [famHS (ps.map Per.lv).length (us.map Uni.lv).length, .bool true]) [.arr 85 6 (ps.map Per.lv), .arr 89 4 (us.map Uni.lv)] := by
  refine HSpec_of_code (E := env.x [] 2) env_ok.x (fn := Tryz.f62) Tryz.func62 rfl Tryz.call62 _ _ _ _ ?_
  ((repeat ((conv => whnf); first | refine brT ?_ | refine brF ?_)); conv => whnf)
  refine ⟨rfl, ?_⟩
  ((repeat ((conv => whnf); first | refine brT ?_ | refine brF ?_)); conv => whnf)
  refine ⟨rfl, ?_⟩
  ((repeat ((conv => whnf); first | refine brT ?_ | refine brF ?_)); conv => whnf)
  refine ⟨_, isFamily_impl ps us, ?_⟩
  ((repeat ((conv => whnf); first | refine brT ?_ | refine brF ?_)); conv => whnf)
  rw [h, show notB true = false by simp [notB]]
  ((repeat ((conv => whnf); first | refine brT ?_ | refine brF ?_)); conv => whnf)
  exact ⟨[famHS (ps.map Per.lv).length (us.map Uni.lv).length, .bool true], rfl, rfl, .inl ⟨⟨rfl, rfl, trivial⟩, ⟨rfl, rfl, trivial⟩, rfl, rfl⟩⟩
theorem validFamily_no (ps : List Per) (us : List Uni) (h : famOk ps us = false) : HSpec env.P 62 [famHS (ps.map Per.lv).length (us.map Uni.lv).length] [.arr 85 6 (ps.map Per.lv), .arr 89 4 (us.map Uni.lv)]
    (.tup [.st [.nil, .nil], .bool false]) [.arr 85 6 (ps.map Per.lv), .arr 89 4 (us.map Uni.lv)] := by
  refine HSpec_of_code (E := env.x [] 2) env_ok.x (fn := Tryz.f62) Tryz.func62 rfl Tryz.call62 _ _ _ _ ?_
  ((repeat ((conv => whnf); first | refine brT ?_ | refine brF ?_)); conv => whnf)
  refine ⟨rfl, ?_⟩
  ((repeat ((conv => whnf); first | refine brT ?_ | refine brF ?_)); conv => whnf)
  refine ⟨rfl, ?_⟩
  ((repeat ((conv => whnf); first | refine brT ?_ | refine brF ?_)); conv => whnf)
  refine ⟨_, isFamily_impl ps us, ?_⟩
  ((repeat ((conv => whnf); first | refine brT ?_ | refine brF ?_)); conv => whnf)
  rw [h, show notB false = true by simp [notB]]
  ((repeat ((conv => whnf); first | refine brT ?_ | refine brF ?_)); conv => whnf)
  exact ⟨[.st [.nil, .nil], .bool false], rfl, rfl, .inl ⟨⟨rfl, rfl, trivial⟩, ⟨rfl, rfl, trivial⟩, rfl, rfl⟩⟩
end Go.Proofs.YtgkjafmmekjjlaaGreat
namespace Go.Proofs.YtgkjafmmekjjlaaGreat
open Go.Lg
end Go.Proofs.YtgkjafmmekjjlaaGreat
namespace Go.Proofs.YtgkjafmmekjjlaaGreat
open Go.Lg
end Go.Proofs.YtgkjafmmekjjlaaGreat
namespace Go.Proofs.YtgkjafmmekjjlaaGreat
open Go.Lg
theorem flats_pers : ∀ xs : List Per, flatsB (xs.map Per.lv) = true
  | [] => rfl
  | p :: xs => by simp only [List.map_cons, flatsB, flats_pers xs]; rfl
theorem flats_unis : ∀ xs : List Uni, flatsB (xs.map Uni.lv) = true
  | [] => rfl
  | p :: xs => by simp only [List.map_cons, flatsB, flats_unis xs]; rfl
theorem szFam_p {ps : List Per} {us : List Uni} (hf : FamOK ps us) (hk : 0 ≤ szFam 1048576 ps us) : ps.length ≤ 1048576 := by
  unfold szFam at hk
  split at hk
  · omega
  · rename_i hh
    rw [ltI_f] at hh
    have := (szPers_ok (by omega) (by omega) hf.p hf.n hh).1
    omega
theorem szFam_u {ps : List Per} {us : List Uni} (hf : FamOK ps us) (hk : 0 ≤ szFam 1048576 ps us) : us.length ≤ 1048576 := by
  unfold szFam at hk
  split at hk
  · omega
  · rename_i hh
    rw [ltI_f] at hh
    have h1 := szPers_ok (by omega) (by omega) hf.p hf.n hh
    split at hk
    · omega
    · rename_i h3
      rw [ltI_f] at h3
      have := (szUnis_ok hh (by omega) hf.u h3).1
      omega
end Go.Proofs.YtgkjafmmekjjlaaGreat
namespace Go.Proofs.YtgkjafmmekjjlaaGreat
open Go.Lg Go.Pm
end Go.Proofs.YtgkjafmmekjjlaaGreat
