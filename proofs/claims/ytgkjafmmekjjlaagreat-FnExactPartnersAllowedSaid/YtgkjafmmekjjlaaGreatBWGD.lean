/- Contracts of functions of the program and of its model, told over readings. -/
import Derived.Test.YtgkjafmmekjjlaaGreatBWGC
import Derived.Test.YtgkjafmmekjjlaaGreatBLgWS
import Derived.Test.YtgkjafmmekjjlaaGreatBWGA
import Derived.Test.YtgkjafmmekjjlaaGreatBLgSO
import Derived.Shelf.SlSortCmp.NoneTotal
import Derived.Test.YtgkjafmmekjjlaaGreatChecked
namespace Go.Proofs.YtgkjafmmekjjlaaGreat
open Go.Lg
set_option maxHeartbeats 1600000
set_option maxRecDepth 10000
set_option linter.unusedVariables false
set_option linter.unusedSimpArgs false

end Go.Proofs.YtgkjafmmekjjlaaGreat

namespace Go.Proofs.YtgkjafmmekjjlaaGreat
open Go.Lg
set_option maxHeartbeats 1600000
set_option maxRecDepth 10000
set_option linter.unusedVariables false
set_option linter.unusedSimpArgs false

/-! ### Composition place by place -/
end Go.Proofs.YtgkjafmmekjjlaaGreat

namespace Go.Proofs.YtgkjafmmekjjlaaGreat
open Go.Lg
set_option maxHeartbeats 1600000
set_option maxRecDepth 10000
set_option linter.unusedVariables false
set_option linter.unusedSimpArgs false

end Go.Proofs.YtgkjafmmekjjlaaGreat

namespace Go.Proofs.YtgkjafmmekjjlaaGreat
open Go.Lg
set_option maxHeartbeats 1600000
set_option maxRecDepth 10000
set_option linter.unusedVariables false
set_option linter.unusedSimpArgs false

end Go.Proofs.YtgkjafmmekjjlaaGreat

namespace Go.Proofs.YtgkjafmmekjjlaaGreat
open Go.Lg
set_option maxHeartbeats 1600000
set_option maxRecDepth 10000
set_option linter.unusedVariables false
set_option linter.unusedSimpArgs false

end Go.Proofs.YtgkjafmmekjjlaaGreat

namespace Go.Proofs.YtgkjafmmekjjlaaGreat
open Go.Lg
set_option maxHeartbeats 1600000
set_option maxRecDepth 10000
set_option linter.unusedVariables false
set_option linter.unusedSimpArgs false

end Go.Proofs.YtgkjafmmekjjlaaGreat

namespace Go.Proofs.YtgkjafmmekjjlaaGreat
open Go.Lg
set_option maxHeartbeats 1600000
set_option maxRecDepth 10000
set_option linter.unusedVariables false
set_option linter.unusedSimpArgs false

def Pr.eq (p q : Pr) : Bool := eqI p.a q.a && eqI p.b q.b
theorem Pr.eq_refl (p : Pr) : p.eq p = true := by simp [Pr.eq, eqI_refl]
theorem eqPairS_refl (ps : List Pr) : eqList Pr.eq ps ps = true := eqList_refl Pr.eq_refl ps

end Go.Proofs.YtgkjafmmekjjlaaGreat

namespace Go.Proofs.YtgkjafmmekjjlaaGreat
open Go.Lg
set_option maxHeartbeats 1600000
set_option maxRecDepth 10000
set_option linter.unusedVariables false
set_option linter.unusedSimpArgs false

/-! ### Wrappers of the model -/
/-! ### Equality -/
end Go.Proofs.YtgkjafmmekjjlaaGreat

namespace Go.Proofs.YtgkjafmmekjjlaaGreat
open Go.Lg
set_option maxHeartbeats 1600000
set_option maxRecDepth 10000
set_option linter.unusedVariables false
set_option linter.unusedSimpArgs false

end Go.Proofs.YtgkjafmmekjjlaaGreat

namespace Go.Proofs.YtgkjafmmekjjlaaGreat
open Go.Lg
set_option maxHeartbeats 1600000
set_option maxRecDepth 10000
set_option linter.unusedVariables false
set_option linter.unusedSimpArgs false

end Go.Proofs.YtgkjafmmekjjlaaGreat

namespace Go.Proofs.YtgkjafmmekjjlaaGreat
open Go.Lg
set_option maxHeartbeats 1600000
set_option maxRecDepth 10000
set_option linter.unusedVariables false
set_option linter.unusedSimpArgs false

end Go.Proofs.YtgkjafmmekjjlaaGreat

namespace Go.Proofs.YtgkjafmmekjjlaaGreat
open Go.Lg
set_option maxHeartbeats 1600000
set_option maxRecDepth 10000
set_option linter.unusedVariables false
set_option linter.unusedSimpArgs false

end Go.Proofs.YtgkjafmmekjjlaaGreat

namespace Go.Proofs.YtgkjafmmekjjlaaGreat
open Go.Lg
set_option maxHeartbeats 1600000
set_option maxRecDepth 10000
set_option linter.unusedVariables false
set_option linter.unusedSimpArgs false

/-! A step is a pair: its kind and its age. -/
end Go.Proofs.YtgkjafmmekjjlaaGreat

namespace Go.Proofs.YtgkjafmmekjjlaaGreat
open Go.Lg
set_option maxHeartbeats 1600000
set_option maxRecDepth 10000
set_option linter.unusedVariables false
set_option linter.unusedSimpArgs false

end Go.Proofs.YtgkjafmmekjjlaaGreat

namespace Go.Proofs.YtgkjafmmekjjlaaGreat
open Go.Lg
set_option maxHeartbeats 1600000
set_option maxRecDepth 10000
set_option linter.unusedVariables false
set_option linter.unusedSimpArgs false

end Go.Proofs.YtgkjafmmekjjlaaGreat

namespace Go.Proofs.YtgkjafmmekjjlaaGreat
open Go.Lg Go.Pm
set_option maxHeartbeats 3200000
set_option maxRecDepth 10000
set_option linter.unusedVariables false
set_option linter.unusedSimpArgs false

/-! ### Classes -/
end Go.Proofs.YtgkjafmmekjjlaaGreat

namespace Go.Proofs.YtgkjafmmekjjlaaGreat
open Go.Lg Go.Pm
set_option maxHeartbeats 3200000
set_option maxRecDepth 10000
set_option linter.unusedVariables false
set_option linter.unusedSimpArgs false

/-! ### No class marries itself -/
end Go.Proofs.YtgkjafmmekjjlaaGreat


namespace Go.Proofs.YtgkjafmmekjjlaaGreat
open Go.Lg Go.Pm
set_option maxHeartbeats 6400000
set_option maxRecDepth 10000
set_option linter.unusedVariables false
set_option linter.unusedSimpArgs false

end Go.Proofs.YtgkjafmmekjjlaaGreat


namespace Go.Proofs.YtgkjafmmekjjlaaGreat
open Go.Lg
set_option maxHeartbeats 1600000
set_option maxRecDepth 10000
set_option linter.unusedVariables false
set_option linter.unusedSimpArgs false

/-! A rule: its name, its sex and place, the steps that it replaces and by which. -/
structure Rul where
  name : ByteArray
  sex : Int
  place : Int
  fr : List Pr
  to : List Pr
def Rul.lv (r : Rul) : LV := .st [.str r.name, .int .i64 r.sex, .int .i64 r.place, .sl (r.fr.map Pr.lv), .sl (r.to.map Pr.lv)]
def Rul.own (r : Rul) (e : Nat) : LV := .st [.str r.name, .int .i64 r.sex, .int .i64 r.place, .own e 2 (r.fr.map Pr.lv), .own e 2 (r.to.map Pr.lv)]
def Rul.eq (r s : Rul) : Bool := eqS r.name s.name && (eqI r.sex s.sex && (eqI r.place s.place && (eqList Pr.eq r.fr s.fr && eqList Pr.eq r.to s.to)))
theorem Rul.eq_refl (r : Rul) : r.eq r = true := by simp [Rul.eq, eqS_refl, eqI_refl, eqPairS_refl]

/-! Comparisons of steps. -/
end Go.Proofs.YtgkjafmmekjjlaaGreat


namespace Go.Proofs.YtgkjafmmekjjlaaGreat
open Go.Lg
set_option maxHeartbeats 1600000
set_option maxRecDepth 10000
set_option linter.unusedVariables false
set_option linter.unusedSimpArgs false

theorem Weak.idn {n0 : Nat} {ts : List LV} {H : List Blk} (h1 : wk ts ts) (h2 : wkH n0 H H) (h3 : (scs (below H.length) ts && H.all (scB (below H.length))) = true) : Weak n0 ts H ts H := by
  simp only [Bool.and_eq_true] at h3
  exact .inl ⟨h1, h2, h3.1, h3.2⟩

end Go.Proofs.YtgkjafmmekjjlaaGreat

namespace Go.Proofs.YtgkjafmmekjjlaaGreat
open Go.Lg Go.Pm
set_option maxHeartbeats 6400000
set_option maxRecDepth 10000
set_option linter.unusedVariables false
set_option linter.unusedSimpArgs false

/-! ### Types as permutations -/
theorem identity_h (n : Nat) (hb : n ≤ 1048576) : HSpec env.P 118 [.int .i64 (n : Int)] [] (.hs 0 ((unit n).map intLV).length) [.arr 3 1 ((unit n).map intLV)] := by
  refine HSpec_of_code (E := env.x [] 0) env_ok.x (fn := Tryz.f118) Tryz.func118 rfl Tryz.call118 _ _ _ _ ?_
  have hp' : n ≤ Go.maxLen := by unfold Go.maxLen; omega
  have hu := unit_len n
  ((repeat ((conv => whnf); first | refine brT ?_ | refine brF ?_)); conv => whnf)
  refine ⟨n, by simp, by simp, by show 8 * n ≤ _; omega, hp', rfl, by decide, ?_⟩
  ((repeat ((conv => whnf); first | refine brT ?_ | refine brF ?_)); conv => whnf)
  refine ⟨by simp, fun _ => ?_⟩
  ((repeat ((conv => whnf); first | refine brT ?_ | refine brF ?_)); conv => whnf)
  refine loop_rule (α := Nat) (fun k => [(9, .int .i64 (k : Int))]) (fun k => [.arr 3 1 (fillLV intLV (intLV 0) (unit n) k)]) (fun k => n - k) (fun k => k ≤ n) 0 (Nat.zero_le _) ?_ ?_
  · refine ⟨?_, ⟨by simp [fillLV, intLV, hu], trivial⟩, rfl, rfl⟩
    ((repeat ((conv => whnf); refine ⟨rfl, ?_⟩)); trivial)
  intro k hk
  have hfl : (fillLV intLV (intLV 0) (unit n) k).length = n := by rw [fill_len (by omega), hu]
  ((repeat ((conv => whnf); first | refine brT ?_ | refine brF ?_)); conv => whnf)
  (refine ⟨fun h1 => ?_, fun h1 => ?_⟩ <;> rw [h1])
  · have hlt : k < n := by rw [ltI_t] at h1; simp at h1; omega
    have hlu : k < (unit n).length := by omega
    have e := step_i hlt hp'
    have eu : (unit n)[k] = (k : Int) := by simp [unit]
    ((repeat ((conv => whnf); first | refine brT ?_ | refine brF ?_)); conv => whnf)
    refine ⟨hfl.symm, rfl, k, rfl, by rw [hfl]; exact hlt, ?_⟩
    ((repeat ((conv => whnf); first | refine brT ?_ | refine brF ?_)); conv => whnf)
    refine ⟨hfl.symm, k, [], intLV 0, rfl, by simp [getP, fill_get hlu], rfl, rfl, rfl, fillLV intLV (intLV 0) (unit n) (k + 1), by rw [fill_get hlu, ← fill_set hlu, eu]; rfl, ?_⟩
    ((repeat ((conv => whnf); first | refine brT ?_ | refine brF ?_)); conv => whnf)
    refine round_end (k + 1) hlt (by omega) ⟨?_, ⟨rfl, trivial⟩, rfl, rfl⟩
    ((repeat ((conv => whnf); first | refine ⟨e, ?_⟩ | refine ⟨rfl, ?_⟩)); trivial)
  · have h4 : k = n := by rw [ltI_f] at h1; simp at h1; omega
    subst h4
    have e5 : fillLV intLV (intLV 0) (unit k) k = (unit k).map intLV := by
      have := fill_all (lv := intLV) (z := intLV 0) (ps := unit k)
      rwa [hu] at this
    ((repeat ((conv => whnf); first | refine brT ?_ | refine brF ?_)); conv => whnf)
    rw [e5]
    exact ⟨[.hs 0 k], by simp [tupOf, hu], rfl, .inl ⟨⟨rfl, trivial⟩, ⟨rfl, trivial⟩, rfl, rfl⟩⟩
theorem idx {q : List Int} {y : Int} (e1 : 0 ≤ y) (e2 : y.toNat < q.length) : y = ((y.toNat : Nat) : Int) ∧ (q.map intLV)[y.toNat]? = some (intLV (q.getD y.toNat 0)) :=
  ⟨by omega, by rw [List.getElem?_map, List.getElem?_eq_getElem e2, getD_lt e2]; rfl⟩
end Go.Proofs.YtgkjafmmekjjlaaGreat


namespace Go.Proofs.YtgkjafmmekjjlaaGreat
open Go.Lg
set_option maxHeartbeats 3200000
set_option maxRecDepth 10000
set_option linter.unusedVariables false
set_option linter.unusedSimpArgs false

/-! ### The table of least steps -/
/-- The rows that are ready, nothing behind them. -/
def upRow (ps : List Per) (k : Nat) : List LV := (clTo ps k).map rowSl ++ List.replicate (ps.length - k) .nil
theorem upRow_len {ps : List Per} {k : Nat} (h : k ≤ ps.length) : (upRow ps k).length = ps.length := by
  simp [upRow, clTo_len]; omega
theorem upRow_at {ps : List Per} {k : Nat} (h : k < ps.length) : (upRow ps k)[k]? = some .nil := by
  unfold upRow
  rw [List.getElem?_append_right (by simp [clTo_len]), List.length_map, clTo_len, Nat.sub_self, List.getElem?_replicate, if_pos (by omega)]
/-- The rows while one is being made. -/
def curRow (ps : List Per) (k : Nat) (R : List Int) : List LV := (clTo ps k).map rowSl ++ rowOw R :: List.replicate (ps.length - k - 1) .nil
theorem cl_mlen (ps : List Per) (k : Nat) : ((clTo ps k).map rowSl).length = k := by rw [List.length_map, clTo_len]
theorem curRow_len {ps : List Per} {k : Nat} {R : List Int} (h : k < ps.length) : (curRow ps k R).length = ps.length := by
  simp [curRow, clTo_len]; omega
theorem curRow_at (ps : List Per) (k : Nat) (R : List Int) : (curRow ps k R)[k]? = some (rowOw R) := by
  unfold curRow
  rw [List.getElem?_append_right (by rw [cl_mlen]; exact Nat.le_refl _), cl_mlen, Nat.sub_self]; rfl
theorem curRow_lt {ps : List Per} {k i : Nat} {R : List Int} (h : i < k) : (curRow ps k R)[i]? = some (rowSl ((clTo ps k).getD i [])) := by
  have hl : i < (clTo ps k).length := by rw [clTo_len]; exact h
  unfold curRow
  rw [List.getElem?_append_left (by simpa using hl), List.getElem?_map, List.getD_eq_getElem?_getD, List.getElem?_eq_getElem hl]; rfl
theorem upRow_set {ps : List Per} {k : Nat} (h : k < ps.length) (R : List Int) : (upRow ps k).set k (rowOw R) = curRow ps k R := by
  unfold upRow curRow
  rw [List.set_append_right _ _ (by rw [cl_mlen]; exact Nat.le_refl _), cl_mlen, Nat.sub_self, show ps.length - k = (ps.length - k - 1) + 1 by omega, List.replicate_succ, List.set_cons_zero]
  rfl
theorem curRow_set (ps : List Per) (k : Nat) (R : List Int) (y : LV) : (curRow ps k R).set k y = (clTo ps k).map rowSl ++ y :: List.replicate (ps.length - k - 1) .nil := by
  unfold curRow
  rw [List.set_append_right _ _ (by rw [cl_mlen]; exact Nat.le_refl _), cl_mlen, Nat.sub_self, List.set_cons_zero]
theorem curRow_fz {ps : List Per} {k : Nat} (h : k < ps.length) {R : List Int} (e : R = (clRow0 (clTo ps k) ps.length k (known ps[k])).set k 0) : (clTo ps k).map rowSl ++ rowSl R :: List.replicate (ps.length - k - 1) .nil = upRow ps (k + 1) := by
  unfold upRow
  have : clTo ps (k + 1) = clTo ps k ++ [R] := by rw [clTo, List.getElem?_eq_getElem h, e]
  rw [this, List.map_append, List.append_assoc, show ps.length - k - 1 = ps.length - (k + 1) by omega]
  rfl
/-- The row behind so many parents. -/
def clP (up : List (List Int)) (n : Nat) (qs : List Int) (j : Nat) : List Int := (qs.take j).foldl (fun row x => clRow row (up.getD x.toNat [])) (List.replicate n 11)
theorem clP_succ {up : List (List Int)} {n : Nat} {qs : List Int} {j : Nat} (h : j < qs.length) : clP up n qs (j + 1) = clRow (clP up n qs j) (up.getD qs[j].toNat []) := by
  unfold clP; rw [List.take_succ_eq_append_getElem h, List.foldl_append]; rfl
theorem clP_len {up : List (List Int)} {n : Nat} {qs : List Int} (h : ∀ x ∈ qs, (up.getD x.toNat []).length = n) : ∀ j, j ≤ qs.length → (clP up n qs j).length = n
  | 0, _ => by simp [clP]
  | j + 1, hj => by
    rw [clP_succ (by omega)]
    exact clRow_len (clP_len h j (by omega)) (h _ (List.getElem_mem _))
theorem intL_at {g : List Int} {i : Nat} (h : i < g.length) : (g.map intLV)[i]? = some (intLV (g.getD i 0)) := by
  rw [List.getElem?_map, List.getElem?_eq_getElem h, List.getD_eq_getElem?_getD, List.getElem?_eq_getElem h]; rfl
/-- The row behind so many persons. -/
def clQ (row pr : List Int) (q : Nat) : List Int := (clRow row pr).take q ++ row.drop q
theorem clQ_len {row pr : List Int} {n q : Nat} (h1 : row.length = n) (h2 : pr.length = n) (hq : q ≤ n) : (clQ row pr q).length = n := by
  unfold clQ; simp [clRow_len h1 h2, h1]; omega
theorem clQ_all {row pr : List Int} {n : Nat} (h1 : row.length = n) (h2 : pr.length = n) : clQ row pr n = clRow row pr := by
  unfold clQ; rw [List.take_of_length_le (by rw [clRow_len h1 h2]; exact Nat.le_refl _), List.drop_eq_nil_of_le (by omega), List.append_nil]
theorem clQ_at {row pr : List Int} {n q : Nat} (h1 : row.length = n) (h2 : pr.length = n) (hq : q < n) : (clQ row pr q).getD q 0 = row.getD q 0 := by
  have hl := clRow_len h1 h2
  unfold clQ
  simp only [List.getD_eq_getElem?_getD]
  rw [List.getElem?_append_right (by rw [List.length_take, hl]; omega), List.length_take, hl, Nat.min_eq_left (by omega), Nat.sub_self, List.getElem?_drop, Nat.add_zero]
theorem clQ_set {row pr : List Int} {n q : Nat} (h1 : row.length = n) (h2 : pr.length = n) (hq : q < n) : (clQ row pr q).set q (minI (row.getD q 0) (pr.getD q 0 + 1)) = clQ row pr (q + 1) := by
  have hl := clRow_len h1 h2
  have hg : (clRow row pr)[q]? = some (minI (row.getD q 0) (pr.getD q 0 + 1)) := by
    have := clRow_get (row := row) (pr := pr) (j := q) (by omega) (by omega)
    rw [← this, List.getD_eq_getElem?_getD, List.getElem?_eq_getElem (by omega)]; rfl
  unfold clQ
  rw [List.set_append_right _ _ (by rw [List.length_take, hl]; omega), List.length_take, hl, Nat.min_eq_left (by omega), Nat.sub_self, List.drop_eq_getElem_cons (by omega), List.set_cons_zero,
    List.take_add_one, hg, List.append_assoc]
  rfl
theorem cl_bound {ps : List Per} (hp : parsIn ps) (hs : shallow (depths ps) = true) {k i q : Nat} (hk : k ≤ ps.length) (hi : i < k) (hq : q < ps.length) : 0 ≤ ((clTo ps k).getD i []).getD q 0 ∧ ((clTo ps k).getD i []).getD q 0 ≤ 11 := by
  rw [(cl_good hp hs k hk i hi).2 q hq]
  have := upd_small hp hs (p := i) (q := q) (by omega) hq
  unfold tooF
  split
  · omega
  · rename_i h; rw [ltI_f] at h; omega
theorem climbs_h (ps : List Per) (us : List Uni) (hl : ps.length ≤ 40) (hp : parsIn ps) (hs : shallow (depths ps) = true) :
    HSpec env.P 91 [famLV ps us] [] (.hs 0 ((clT ps).map rowSl).length) [.tree 29 1 ((clT ps).map rowSl)] := by
  refine HSpec_of_code (E := env.x [73] 0) env_ok.x (fn := Tryz.f91) Tryz.func91 rfl Tryz.call91 _ _ _ _ ?_
  have hP : (ps.map Per.lv).length = ps.length := List.length_map ..
  have hp' : ps.length ≤ Go.maxLen := by unfold Go.maxLen; omega
  ((repeat ((conv => whnf); first | refine brT ?_ | refine brF ?_)); conv => whnf)
  intro _
  ((repeat ((conv => whnf); first | refine brT ?_ | refine brF ?_)); conv => whnf)
  refine ⟨ps.length, by rw [hP], by rw [hP], by show 24 * ps.length ≤ _; omega, hp', rfl, by decide, ?_⟩
  ((repeat ((conv => whnf); first | refine brT ?_ | refine brF ?_)); conv => whnf)
  intro _
  ((repeat ((conv => whnf); first | refine brT ?_ | refine brF ?_)); conv => whnf)
  rw [hP]
  refine loop_ruleR (α := Nat) [.old 0, .old 1] (fun k => [(17, .int .i64 (k : Int))]) (fun k => [.box (famLV ps us), .tree 29 1 (upRow ps k)]) (fun k => ps.length - k) (fun k => k ≤ ps.length) 0 (Nat.zero_le _) ?_ ?_
  · refine ⟨?_, ⟨rfl, rfl, rfl, congrArg (Blk.tree 29 1) (by simp [upRow, clTo]), trivial⟩, rfl⟩
    ((repeat ((conv => whnf); refine ⟨rfl, rfl, ?_⟩)); trivial)
  intro k hk
  generalize hK : kk _ = KK
  ((repeat ((conv => whnf); first | refine brT ?_ | refine brF ?_)); conv => whnf)
  (refine ⟨fun g1 => ?_, fun g1 => ?_⟩ <;> rw [g1])
  · have hlt : k < ps.length := by rw [ltI_t] at g1; omega
    have e := step_i hlt hp'
    ((repeat ((conv => whnf); first | refine brT ?_ | refine brF ?_)); conv => whnf)
    refine ⟨k, ps[k].lv, rfl, by simp [hlt], rfl, ?_⟩
    ((repeat ((conv => whnf); first | refine brT ?_ | refine brF ?_)); conv => whnf)
    intro _
    ((repeat ((conv => whnf); first | refine brT ?_ | refine brF ?_)); conv => whnf)
    rw [hP]
    have hrep := repeat_h 11 ps.length (by omega) hl
    rw [show List.replicate ps.length (LV.int .i64 11) = (List.replicate ps.length 11).map intLV by simp [intLV]] at hrep
    refine ⟨[], _, _, _, _, hrep, rfl, ?_⟩
    ((repeat ((conv => whnf); first | refine brT ?_ | refine brF ?_)); conv => whnf)
    refine ⟨rfl, ?_⟩
    ((repeat ((conv => whnf); first | refine brT ?_ | refine brF ?_)); conv => whnf)
    refine ⟨rfl, rfl, ⟨rfl, flats_ints _, trivial⟩, ?_⟩
    ((repeat ((conv => whnf); first | refine brT ?_ | refine brF ?_)); conv => whnf)
    refine ⟨(upRow_len hk).symm, rfl, k, rfl, by rw [upRow_len hk]; exact hlt, ?_⟩
    ((repeat ((conv => whnf); first | refine brT ?_ | refine brF ?_)); conv => whnf)
    refine ⟨by simp, (upRow_len hk).symm, rfl, .nil, .nil, curRow ps k (List.replicate ps.length 11), upRow_at hlt, rfl, rfl, upRow_set hlt _, ?_⟩
    ((repeat ((conv => whnf); first | refine brT ?_ | refine brF ?_)); conv => whnf)
    refine ⟨_, knownParents_spec ps[k], ?_⟩
    ((repeat ((conv => whnf); first | refine brT ?_ | refine brF ?_)); conv => whnf)
    intro _
    ((repeat ((conv => whnf); first | refine brT ?_ | refine brF ?_)); conv => whnf)
    have hkn := kn_in hp hlt
    have hgood := fun i (hi : i < k) => (cl_good hp hs k hk i hi).1
    generalize hqs : known ps[k] = qs at hkn
    have hq2 : qs.length ≤ 2 := by rw [← hqs]; exact known_two _
    have hQ : (qs.map intLV).length = qs.length := List.length_map ..
    rw [hQ]
    refine loop_ruleR (α := Nat) [.old 0, .old 1, .old 2, .old 3, .old 4] (fun j => [(33, .int .i64 (j : Int))])
      (fun j => [.box (famLV ps us), .tree 29 1 (curRow ps k (clP (clTo ps k) ps.length qs j)), .box ps[k].lv, .arr 3 1 [.int .i64 11], .dead]) (fun j => qs.length - j) (fun j => j ≤ qs.length) 0 (Nat.zero_le _) ?_ ?_
    · refine ⟨?_, ⟨rfl, rfl, rfl, rfl, rfl, rfl, rfl, rfl, rfl, rfl, trivial⟩, rfl⟩
      ((repeat ((conv => whnf); refine ⟨rfl, rfl, ?_⟩)); trivial)
    intro j hj
    generalize hK2 : kk _ = KK2
    ((repeat ((conv => whnf); first | refine brT ?_ | refine brF ?_)); conv => whnf)
    (refine ⟨fun g2 => ?_, fun g2 => ?_⟩ <;> rw [g2])
    · have hlj : j < qs.length := by rw [ltI_t] at g2; omega
      have ej := step_i hlj (by unfold Go.maxLen; omega)
      obtain ⟨x0, x1⟩ := hkn qs[j] (List.getElem_mem hlj)
      have hcl := clP_len (up := clTo ps k) (n := ps.length) (qs := qs) (fun x hx => hgood _ (hkn x hx).2) j (by omega)
      have hg2 := hgood _ x1
      generalize hR : clP (clTo ps k) ps.length qs j = R at hcl
      generalize hPr : (clTo ps k).getD qs[j].toNat [] = Pr at hg2
      have hPrL : (Pr.map intLV).length = ps.length := by rw [List.length_map, hg2]
      ((repeat ((conv => whnf); first | refine brT ?_ | refine brF ?_)); conv => whnf)
      refine ⟨j, intLV qs[j], rfl, by simp [hlj], rfl, ?_⟩
      ((repeat ((conv => whnf); first | refine brT ?_ | refine brF ?_)); conv => whnf)
      refine ⟨(curRow_len hlt).symm, rfl, qs[j].toNat, by omega, by rw [curRow_len hlt]; omega, ?_⟩
      ((repeat ((conv => whnf); first | refine brT ?_ | refine brF ?_)); conv => whnf)
      refine ⟨(curRow_len hlt).symm, rowSl Pr, .sl (Pr.map intLV), by rw [curRow_lt x1, hPr], rfl, ?_⟩
      ((repeat ((conv => whnf); first | refine brT ?_ | refine brF ?_)); conv => whnf)
      refine ⟨rfl, rfl, ?_⟩
      ((repeat ((conv => whnf); first | refine brT ?_ | refine brF ?_)); conv => whnf)
      intro _
      ((repeat ((conv => whnf); first | refine brT ?_ | refine brF ?_)); conv => whnf)
      rw [hPrL]
      refine loop_ruleR (α := Nat) [.old 0, .old 1, .old 2, .old 3, .old 4] (fun q => [(42, .int .i64 (q : Int))])
        (fun q => [.box (famLV ps us), .tree 29 1 (curRow ps k (clQ R Pr q)), .box ps[k].lv, .arr 3 1 [.int .i64 11], .dead]) (fun q => ps.length - q) (fun q => q ≤ ps.length) 0 (Nat.zero_le _) ?_ ?_
      · refine ⟨?_, ⟨rfl, rfl, rfl, rfl, rfl, rfl, rfl, rfl, rfl, rfl, trivial⟩, rfl⟩
        ((repeat ((conv => whnf); refine ⟨rfl, rfl, ?_⟩)); trivial)
      intro q hq
      generalize hK3 : kk _ = KK3
      ((repeat ((conv => whnf); first | refine brT ?_ | refine brF ?_)); conv => whnf)
      (refine ⟨fun g3 => ?_, fun g3 => ?_⟩ <;> rw [g3])
      · have hlq : q < ps.length := by rw [ltI_t] at g3; omega
        have eq := step_i hlq hp'
        have hQl := clQ_len hcl hg2 (show q ≤ ps.length by omega)
        have hQg := clQ_at hcl hg2 hlq
        have hQs := clQ_set hcl hg2 hlq
        have hPb : 0 ≤ Pr.getD q 0 ∧ Pr.getD q 0 ≤ 11 := by rw [← hPr]; exact cl_bound hp hs hk x1 hlq
        ((repeat ((conv => whnf); first | refine brT ?_ | refine brF ?_)); conv => whnf)
        refine ⟨q, intLV (Pr.getD q 0), rfl, intL_at (by omega), rfl, ?_⟩
        ((repeat ((conv => whnf); first | refine brT ?_ | refine brF ?_)); conv => whnf)
        refine ⟨false, 15, by kernel_rfl, ?_⟩
        ((repeat ((conv => whnf); first | refine brT ?_ | refine brF ?_)); conv => whnf)
        refine ⟨(curRow_len hlt).symm, rfl, k, rfl, by rw [curRow_len hlt]; exact hlt, ?_⟩
        ((repeat ((conv => whnf); first | refine brT ?_ | refine brF ?_)); conv => whnf)
        refine ⟨(curRow_len hlt).symm, rowOw (clQ R Pr q), rowOw (clQ R Pr q), curRow_at _ _ _, rfl, ?_⟩
        ((repeat ((conv => whnf); first | refine brT ?_ | refine brF ?_)); conv => whnf)
        have hSL : ∀ v : LV, ((curRow ps k (clQ R Pr q)).set k v).length = ps.length := fun v => by rw [List.length_set, curRow_len hlt]
        refine ⟨(hSL _).symm, rfl, k, rfl, by rw [hSL]; exact hlt, ?_⟩
        ((repeat ((conv => whnf); first | refine brT ?_ | refine brF ?_)); conv => whnf)
        have hSA : ((curRow ps k (clQ R Pr q)).set k (.tup []))[k]? = some (.tup []) := List.getElem?_set_self (by rw [curRow_len hlt]; exact hlt)
        refine .inl ⟨rfl, (hSL .nil).symm, hSA, rfl, ?_⟩
        ((repeat ((conv => whnf); first | refine brT ?_ | refine brF ?_)); conv => whnf)
        have hgq : getP (.st ((clQ R Pr q).map intLV)) [q] = some (intLV ((clQ R Pr q).getD q 0)) := by simp only [getP]; rw [intL_at (g := clQ R Pr q) (i := q) (by rw [hQl]; exact hlq)]
        have hRl : ((clQ R Pr q).map intLV).length = ps.length := by rw [List.length_map, hQl]
        refine ⟨rfl, rfl, q, rfl, by rw [hRl]; exact hlq, ?_⟩
        ((repeat ((conv => whnf); first | refine brT ?_ | refine brF ?_)); conv => whnf)
        refine ⟨rfl, by simp, intLV ((clQ R Pr q).getD q 0), hgq, rfl, ?_⟩
        ((repeat ((conv => whnf); first | refine brT ?_ | refine brF ?_)); conv => whnf)
        refine ⟨rfl, rfl, q, rfl, by rw [hRl]; exact hlq, ?_⟩
        ((repeat ((conv => whnf); first | refine brT ?_ | refine brF ?_)); conv => whnf)
        refine ⟨rfl, q, [], intLV ((clQ R Pr q).getD q 0), rfl, hgq, rfl, rfl, rfl, (clQ R Pr (q + 1)).map intLV, ?_, ?_⟩
        · rw [intL_at (g := clQ R Pr q) (i := q) (by rw [hQl]; exact hlq), wrap64 (by omega) (by omega), ← hQs, hQg, List.map_set]; rfl
        ((repeat ((conv => whnf); first | refine brT ?_ | refine brF ?_)); conv => whnf)
        subst hK3
        refine round_endR [.old 0, .old 1, .old 2, .old 3, .old 4] (q + 1) hlq (by omega) ⟨?_, ⟨?_, ?_⟩, rfl⟩
        · ((repeat ((conv => whnf); first | refine ⟨rfl, eq, ?_⟩ | refine ⟨rfl, rfl, ?_⟩)); trivial)
        · rw [List.length_map, List.length_map, hQl, clQ_len hcl hg2 (show q + 1 ≤ ps.length by omega)]
        · have heq : (curRow ps k (clQ R Pr q)).set k (rowOw (clQ R Pr (q + 1))) = curRow ps k (clQ R Pr (q + 1)) := by rw [curRow_set]; rfl
          ((repeat ((conv => whnf); first | refine brT ?_ | refine brF ?_)); conv => whnf)
          exact ⟨rfl, rfl, rfl, congrArg (Blk.tree 29 1) heq, rfl, rfl, rfl, rfl, rfl, rfl, trivial⟩
      · have h4 : q = ps.length := by rw [ltI_f] at g3; omega
        subst h4
        subst hK3
        have hnx : clQ R Pr ps.length = clP (clTo ps k) ps.length qs (j + 1) := by rw [clQ_all hcl hg2, clP_succ hlj, hR, hPr]
        rw [hnx]
        ((repeat ((conv => whnf); first | refine brT ?_ | refine brF ?_)); conv => whnf)
        subst hK2
        refine round_endR [.old 0, .old 1, .old 2, .old 3, .old 4] (j + 1) hlj (by omega) ⟨?_, ⟨rfl, rfl, rfl, rfl, rfl, rfl, rfl, rfl, rfl, rfl, trivial⟩, rfl⟩
        ((repeat ((conv => whnf); first | refine ⟨rfl, ej, ?_⟩ | refine ⟨rfl, rfl, ?_⟩)); trivial)
    · have h4 : j = qs.length := by rw [ltI_f] at g2; omega
      subst h4
      subst hK2
      have hfin : clP (clTo ps k) ps.length qs qs.length = clRow0 (clTo ps k) ps.length k qs := by unfold clP clRow0; rw [List.take_of_length_le (Nat.le_refl _)]
      have hfl := clP_len (up := clTo ps k) (n := ps.length) (qs := qs) (fun x hx => hgood _ (hkn x hx).2) qs.length (Nat.le_refl _)
      rw [hfin] at hfl ⊢
      have hnx : (clRow0 (clTo ps k) ps.length k qs).set k 0 = (clRow0 (clTo ps k) ps.length k (known ps[k])).set k 0 := by rw [hqs]
      generalize clRow0 (clTo ps k) ps.length k qs = R at hfl hnx ⊢
      ((repeat ((conv => whnf); first | refine brT ?_ | refine brF ?_)); conv => whnf)
      refine ⟨(curRow_len hlt).symm, rfl, k, rfl, by rw [curRow_len hlt]; exact hlt, ?_⟩
      ((repeat ((conv => whnf); first | refine brT ?_ | refine brF ?_)); conv => whnf)
      refine ⟨(curRow_len hlt).symm, rowOw R, rowOw R, curRow_at _ _ _, rfl, ?_⟩
      ((repeat ((conv => whnf); first | refine brT ?_ | refine brF ?_)); conv => whnf)
      have hRl : (R.map intLV).length = ps.length := by rw [List.length_map, hfl]
      have hgq : getP (.st (R.map intLV)) [k] = some (intLV (R.getD k 0)) := by simp only [getP]; rw [intL_at (g := R) (i := k) (by rw [hfl]; exact hlt)]
      refine ⟨rfl, rfl, k, rfl, by rw [hRl]; exact hlt, ?_⟩
      ((repeat ((conv => whnf); first | refine brT ?_ | refine brF ?_)); conv => whnf)
      refine ⟨rfl, k, [], intLV (R.getD k 0), rfl, hgq, rfl, rfl, rfl, (R.set k 0).map intLV, ?_, ?_⟩
      · rw [intL_at (g := R) (i := k) (by rw [hfl]; exact hlt), List.map_set]; rfl
      ((repeat ((conv => whnf); first | refine brT ?_ | refine brF ?_)); conv => whnf)
      subst hK
      refine round_endF 1 k [.old 0, .old 1] (k + 1) hlt (by omega) ⟨?_, ⟨?_, ?_⟩, rfl⟩
      · ((repeat ((conv => whnf); first | refine ⟨rfl, e, ?_⟩ | refine ⟨rfl, rfl, ?_⟩)); trivial)
      · rw [List.length_map, List.length_map, List.length_set]
      · have hSA : ((curRow ps k R).set k (rowOw (R.set k 0)))[k]? = some (rowOw (R.set k 0)) := List.getElem?_set_self (by rw [curRow_len hlt]; exact hlt)
        have heq : ((curRow ps k R).set k (rowOw (R.set k 0))).set k (rowSl (R.set k 0)) = upRow ps (k + 1) := by rw [List.set_set, curRow_set]; exact curRow_fz hlt hnx
        ((repeat ((conv => whnf); first | refine brT ?_ | refine brF ?_)); conv => whnf)
        refine ⟨29, 1, _, rowOw (R.set k 0), rfl, hSA, ?_⟩
        ((repeat ((conv => whnf); first | refine brT ?_ | refine brF ?_)); conv => whnf)
        exact ⟨rfl, rfl, rfl, congrArg (Blk.tree 29 1) heq, trivial⟩
  · have h4 : k = ps.length := by rw [ltI_f] at g1; omega
    subst h4
    subst hK
    have hu : upRow ps ps.length = (clT ps).map rowSl := by simp [upRow, clT]
    have hl2 : ((clT ps).map rowSl).length = ps.length := by rw [List.length_map]; exact clTo_len ps _
    rw [hu, hl2]
    ((repeat ((conv => whnf); first | refine brT ?_ | refine brF ?_)); conv => whnf)
    exact ⟨[.hs 0 ps.length], rfl, rfl, .inr ⟨[.old 1], ⟨rfl, rfl, trivial⟩, ⟨rfl, rfl, trivial⟩, rfl⟩⟩
theorem dms_rowSl (T : List (List Int)) : dms (T.map rowSl) = T.map rowSl := by
  rw [dms_map, List.map_map]; rfl
theorem climbs_f (ps : List Per) (us : List Uni) (hl : ps.length ≤ 40) (hp : parsIn ps) (hs : shallow (depths ps) = true) :
    FSpec env.P 91 [famLV ps us] (.own 29 1 ((clT ps).map rowSl)) := by
  have hl2 : ((clT ps).map rowSl).length = ps.length := by rw [List.length_map]; exact clTo_len ps _
  refine FSpec_of_tree (climbs_h ps us hl hp hs) ?_
  rw [dms_rowSl, hl2]
  rw [← hl2]
  simp [exW]
end Go.Proofs.YtgkjafmmekjjlaaGreat


namespace Go.Proofs.YtgkjafmmekjjlaaGreat
open Go.Lg Go.Pm
set_option maxHeartbeats 3200000
set_option maxRecDepth 10000
set_option linter.unusedVariables false
set_option linter.unusedSimpArgs false

/-! ### Founders -/
def parS (p : Per) (sx : Int) : Int := match eqI sx 1 with | true => p.father | false => p.mother
def foNx (ds : List Int) (k : Nat) (x : Int) : Int := match eqI x (-1) with | true => (k : Int) | false => ds.getD x.toNat 0
def foTo (ps : List Per) (sx : Int) : Nat → List Int
  | 0 => []
  | k + 1 => foTo ps sx k ++ [match ps[k]? with | some p => foNx (foTo ps sx k) k (parS p sx) | none => 0]
theorem foTo_len (ps : List Per) (sx : Int) : ∀ k, (foTo ps sx k).length = k
  | 0 => rfl
  | k + 1 => by simp [foTo, foTo_len ps sx k]
theorem foTo_succ {ps : List Per} {sx : Int} {k : Nat} (h : k < ps.length) : foTo ps sx (k + 1) = foTo ps sx k ++ [foNx (foTo ps sx k) k (parS ps[k] sx)] := by
  simp [foTo, h]
theorem foTo_get (ps : List Per) (sx : Int) {i k : Nat} (h : i < k) : ∀ n, k ≤ n → (foTo ps sx n).getD i 0 = (foTo ps sx k).getD i 0 := by
  intro n hn
  induction n with
  | zero => omega
  | succ n ih =>
    rcases Nat.lt_or_ge n k with h1 | h1
    · have : k = n + 1 := by omega
      subst this; rfl
    · have e := ih h1
      rw [← e]
      simp only [foTo, List.getD_eq_getElem?_getD]
      rw [List.getElem?_append_left (by rw [foTo_len]; omega)]
/-- Who founded the line of a person. -/
def foAt (ps : List Per) (sx : Int) (i : Nat) : Int := (foTo ps sx ps.length).getD i 0
theorem parS_in {ps : List Per} (hp : parsIn ps) {sx : Int} {i : Nat} (h : i < ps.length) : parIn (parS ps[i] sx) i := by
  unfold parS; split
  · exact (hp i h).1
  · exact (hp i h).2
theorem foAt_rec {ps : List Per} (hp : parsIn ps) {sx : Int} {i : Nat} (h : i < ps.length) : foAt ps sx i = (match eqI (parS ps[i] sx) (-1) with | true => (i : Int) | false => foAt ps sx (parS ps[i] sx).toNat) := by
  have h0 := foTo_get ps sx (i := i) (k := i + 1) (by omega) ps.length (by omega)
  unfold foAt
  rw [h0, foTo_succ h, List.getD_eq_getElem?_getD, List.getElem?_append_right (by rw [foTo_len]; exact Nat.le_refl _), foTo_len, Nat.sub_self]
  show foNx _ _ _ = _
  unfold foNx
  cases he : eqI (parS ps[i] sx) (-1) with
  | true => rfl
  | false =>
    have hx := parS_in hp (sx := sx) h
    rw [eqI_f] at he
    rcases hx with hx | ⟨hx, hy⟩
    · exact absurd hx he
    · exact (foTo_get ps sx (i := (parS ps[i] sx).toNat) (k := i) (by omega) ps.length (by omega)).symm
def fos (ps : List Per) (sx : Int) : List Int := foTo ps sx ps.length
theorem fos_len (ps : List Per) (sx : Int) : (fos ps sx).length = ps.length := foTo_len ps sx _
theorem fos_get {ps : List Per} {sx : Int} {i : Nat} (h : i < ps.length) : (fos ps sx)[i]? = some (foAt ps sx i) := by
  have hl : i < (fos ps sx).length := by rw [fos_len]; exact h
  rw [List.getElem?_eq_getElem hl]
  unfold foAt
  rw [List.getD_eq_getElem?_getD, show foTo ps sx ps.length = fos ps sx from rfl, List.getElem?_eq_getElem hl]; rfl
/-- The row of founders behind so many rounds. -/
def foRow (ps : List Per) (sx : Int) (k : Nat) : List LV := (foTo ps sx k ++ (unit ps.length).drop k).map intLV
theorem foRow_len {ps : List Per} {sx : Int} {k : Nat} (h : k ≤ ps.length) : (foRow ps sx k).length = ps.length := by
  simp [foRow, foTo_len, unit_len]; omega
theorem foRow_lt {ps : List Per} {sx : Int} {k i : Nat} (h : i < k) : (foRow ps sx k)[i]? = some (intLV ((foTo ps sx k).getD i 0)) := by
  have hl : i < (foTo ps sx k).length := by rw [foTo_len]; exact h
  unfold foRow
  rw [List.getElem?_map, List.getElem?_append_left hl, List.getD_eq_getElem?_getD, List.getElem?_eq_getElem hl]; rfl
theorem foRow_at {ps : List Per} {sx : Int} {k : Nat} (h : k < ps.length) : (foRow ps sx k)[k]? = some (intLV (k : Int)) := by
  unfold foRow
  rw [List.getElem?_map, List.getElem?_append_right (by rw [foTo_len]; exact Nat.le_refl _), foTo_len, Nat.sub_self, List.getElem?_drop, Nat.add_zero, List.getElem?_eq_getElem (by rw [unit_len]; exact h)]
  simp [unit]
theorem foRow_set {ps : List Per} {sx : Int} {k : Nat} (h : k < ps.length) {v : Int} (e : foNx (foTo ps sx k) k (parS ps[k] sx) = v) : (foRow ps sx k).set k (intLV v) = foRow ps sx (k + 1) := by
  subst e
  unfold foRow
  rw [foTo_succ h, List.drop_eq_getElem_cons (by rw [unit_len]; exact h), List.map_append, List.map_cons, List.set_append_right _ _ (by simp [foTo_len])]
  simp [foTo_len]
theorem foRow_same {ps : List Per} {sx : Int} {k : Nat} (h : k < ps.length) (e : eqI (parS ps[k] sx) (-1) = true) : foRow ps sx k = foRow ps sx (k + 1) := by
  have := foRow_set (sx := sx) h (v := (k : Int)) (by unfold foNx; rw [e])
  rw [← this]
  apply List.ext_getElem?
  intro i
  rw [List.getElem?_set]
  split
  · rename_i hi
    subst hi
    rw [if_pos (by rw [foRow_len (by omega)]; exact h), foRow_at h]
  · rfl
theorem parentOfSex_spec (p : Per) (sx : Int) : FSpec env.P 119 [p.lv, .int .i64 sx] (.int .i64 (parS p sx)) := by
  refine FSpec_of_code env_ok (fn := Tryz.f119) Tryz.func119 rfl Tryz.call119 _ _ ?_
  ((repeat ((conv => whnf); first | refine brT ?_ | refine brF ?_)); conv => whnf)
  (refine ⟨fun h => ?_, fun h => ?_⟩ <;> rw [h])
  · ((repeat ((conv => whnf); first | refine brT ?_ | refine brF ?_)); conv => whnf)
    refine ⟨rfl, ?_, List.nodup_nil⟩; simp [parS, h]
  · ((repeat ((conv => whnf); first | refine brT ?_ | refine brF ?_)); conv => whnf)
    refine ⟨rfl, ?_, List.nodup_nil⟩; simp [parS, h]
theorem foundersOf_h (ps : List Per) (us : List Uni) (sx : Int) (hl : ps.length ≤ 40) (hp : parsIn ps) :
    HSpec env.P 92 [famLV ps us, .int .i64 sx] [] (.hs 0 ((fos ps sx).map intLV).length) [.arr 3 1 ((fos ps sx).map intLV)] := by
  refine HSpec_of_code (E := env.x [118] 0) env_ok.x (fn := Tryz.f92) Tryz.func92 rfl Tryz.call92 _ _ _ _ ?_
  have hL : (ps.map Per.lv).length = ps.length := List.length_map ..
  ((repeat ((conv => whnf); first | refine brT ?_ | refine brF ?_)); conv => whnf)
  intro hn
  ((repeat ((conv => whnf); first | refine brT ?_ | refine brF ?_)); conv => whnf)
  refine ⟨[], _, _, _, _, identity_h (ps.map Per.lv).length (by omega), rfl, rfl, rfl, trivial, ?_⟩
  ((repeat ((conv => whnf); first | refine brT ?_ | refine brF ?_)); conv => whnf)
  intro hn2
  ((repeat ((conv => whnf); first | refine brT ?_ | refine brF ?_)); conv => whnf)
  refine loop_rule (α := Nat) (fun k => [(16, .int .i64 (k : Int))]) (fun k => [.box (famLV ps us), .arr 3 1 (foRow ps sx k)]) (fun k => ps.length - k) (fun k => k ≤ ps.length) 0 (Nat.zero_le _) ?_ ?_
  · refine ⟨?_, ⟨rfl, by simp [foRow, foTo, hL], trivial⟩, rfl, rfl⟩
    ((repeat ((conv => whnf); refine ⟨rfl, ?_⟩)); trivial)
  intro k hk
  have hr : ((unit (ps.map Per.lv).length).map intLV).length = (foRow ps sx k).length := by rw [foRow_len hk, List.length_map, unit_len, hL]
  ((repeat ((conv => whnf); first | refine brT ?_ | refine brF ?_)); conv => whnf)
  (refine ⟨fun h1 => ?_, fun h1 => ?_⟩ <;> rw [h1])
  · have hlt : k < ps.length := by rw [ltI_t] at h1; simp at h1; omega
    have e := step_i hlt (by unfold Go.maxLen; omega)
    have hx := parS_in hp (sx := sx) hlt
    ((repeat ((conv => whnf); first | refine brT ?_ | refine brF ?_)); conv => whnf)
    refine ⟨k, ps[k].lv, rfl, by simp [hlt], rfl, ?_⟩
    ((repeat ((conv => whnf); first | refine brT ?_ | refine brF ?_)); conv => whnf)
    refine ⟨_, parentOfSex_spec ps[k] sx, ?_⟩
    ((repeat ((conv => whnf); first | refine brT ?_ | refine brF ?_)); conv => whnf)
    (refine ⟨fun h2 => ?_, fun h2 => ?_⟩ <;> rw [h2])
    · rw [notB_t] at h2
      have h2' := eqI_f.1 h2
      obtain ⟨hx0, hx1⟩ : 0 ≤ parS ps[k] sx ∧ parS ps[k] sx < k := hx.resolve_left h2'
      have hxn : parS ps[k] sx = ((parS ps[k] sx).toNat : Int) := by omega
      have hxk : (parS ps[k] sx).toNat < k := by omega
      ((repeat ((conv => whnf); first | refine brT ?_ | refine brF ?_)); conv => whnf)
      refine ⟨hr, rfl, (parS ps[k] sx).toNat, hxn, by rw [foRow_len hk]; omega, ?_⟩
      ((repeat ((conv => whnf); first | refine brT ?_ | refine brF ?_)); conv => whnf)
      refine ⟨hr, by simp, intLV ((foTo ps sx k).getD (parS ps[k] sx).toNat 0), by simp only [getP]; rw [foRow_lt hxk], rfl, ?_⟩
      ((repeat ((conv => whnf); first | refine brT ?_ | refine brF ?_)); conv => whnf)
      refine ⟨hr, rfl, k, rfl, by rw [foRow_len hk]; omega, ?_⟩
      ((repeat ((conv => whnf); first | refine brT ?_ | refine brF ?_)); conv => whnf)
      refine ⟨hr, k, [], intLV (k : Int), rfl, by simp only [getP]; rw [foRow_at hlt], rfl, rfl, rfl, foRow ps sx (k + 1), by rw [foRow_at hlt]; exact foRow_set hlt (by unfold foNx; rw [h2]), ?_⟩
      ((repeat ((conv => whnf); first | refine brT ?_ | refine brF ?_)); conv => whnf)
      refine round_end (k + 1) hlt (by omega) ⟨?_, ⟨rfl, rfl, trivial⟩, rfl, rfl⟩
      ((repeat ((conv => whnf); first | refine ⟨e, ?_⟩ | refine ⟨rfl, ?_⟩)); trivial)
    · rw [notB_f] at h2
      ((repeat ((conv => whnf); first | refine brT ?_ | refine brF ?_)); conv => whnf)
      refine round_end (k + 1) hlt (by omega) ⟨?_, ⟨rfl, congrArg (Blk.arr 3 1) (foRow_same hlt h2), trivial⟩, rfl, rfl⟩
      ((repeat ((conv => whnf); first | refine ⟨e, ?_⟩ | refine ⟨rfl, ?_⟩)); trivial)
  · have h3 : k = ps.length := by rw [ltI_f] at h1; simp at h1; omega
    subst h3
    have e5 : foRow ps sx ps.length = (fos ps sx).map intLV := by simp [foRow, fos, unit_len]
    have e6 : ((fos ps sx).map intLV).length = ((unit (ps.map Per.lv).length).map intLV).length := by rw [hr, e5]
    ((repeat ((conv => whnf); first | refine brT ?_ | refine brF ?_)); conv => whnf)
    exact ⟨[.hs 0 ((unit (ps.map Per.lv).length).map intLV).length], by simp only [tupOf]; rw [e6], rfl, .inr ⟨[.old 1], ⟨rfl, rfl, trivial⟩, ⟨rfl, congrArg (Blk.arr 3 1) e5, trivial⟩, rfl⟩⟩
theorem foundersOf_f (ps : List Per) (us : List Uni) (sx : Int) (hl : ps.length ≤ 40) (hp : parsIn ps) : FSpec env.P 92 [famLV ps us, .int .i64 sx] (rowOw (fos ps sx)) := ints_f (foundersOf_h ps us sx hl hp)
theorem l7Founder_spec (ps : List Per) (us : List Uni) (p : Nat) (sx : Int) (hs : sx = 1 ∨ sx = 2) (hp : parsIn ps) (h : p < ps.length) :
    FSpec env.P 82 [famLV ps us, .int .i64 (p : Int), .int .i64 sx] (.int .i64 (foAt ps sx p)) := by
  refine FSpec_of_code env_ok (fn := Tryz.f82) Tryz.func82 rfl Tryz.call82 _ _ ?_
  ((repeat ((conv => whnf); first | refine brT ?_ | refine brF ?_)); conv => whnf)
  refine loop_rule (α := Nat) (fun k => [(1, .int .i64 (k : Int))]) (fun k => [.box (famLV ps us)]) (fun k => k) (fun k => k < ps.length ∧ foAt ps sx k = foAt ps sx p) p ⟨h, rfl⟩ ?_ ?_
  · refine ⟨?_, ⟨rfl, trivial⟩, rfl, rfl⟩
    ((repeat ((conv => whnf); refine ⟨rfl, ?_⟩)); trivial)
  rintro k ⟨hk, hf⟩
  have hx := parS_in hp (sx := sx) hk
  have hrec := foAt_rec hp (sx := sx) hk
  ((repeat ((conv => whnf); first | refine brT ?_ | refine brF ?_)); conv => whnf)
  refine ⟨k, ps[k].lv, rfl, by simp [hk], rfl, ?_⟩
  ((repeat ((conv => whnf); first | refine brT ?_ | refine brF ?_)); conv => whnf)
  (refine ⟨fun h1 => ?_, fun h1 => ?_⟩ <;> rw [h1])
  · have hsx : sx = 2 := eqI_t.1 h1
    have e1 : parS ps[k] sx = ps[k].mother := by subst hsx; unfold parS; rw [show eqI 2 1 = false by rw [eqI_f]; decide]
    rw [e1] at hx hrec
    ((repeat ((conv => whnf); first | refine brT ?_ | refine brF ?_)); conv => whnf)
    refine ⟨k, ps[k].lv, rfl, by simp [hk], rfl, ?_⟩
    ((repeat ((conv => whnf); first | refine brT ?_ | refine brF ?_)); conv => whnf)
    (refine ⟨fun h2 => ?_, fun h2 => ?_⟩ <;> rw [h2])
    · rw [ltI_t] at h2
      have : ps[k].mother = -1 := by rcases hx with hx | hx <;> omega
      ((repeat ((conv => whnf); first | refine brT ?_ | refine brF ?_)); conv => whnf)
      refine ⟨rfl, ?_, List.nodup_nil⟩
      rw [← hf, hrec, this]
      rw [show eqI (-1) (-1) = true from eqI_refl _]
    · rw [ltI_f] at h2
      have hne : eqI ps[k].mother (-1) = false := by rw [eqI_f]; omega
      have hx2 : ps[k].mother < k := by rcases hx with hx | hx <;> omega
      rw [hne] at hrec
      have e : LV.int .i64 ps[k].mother = LV.int .i64 ((ps[k].mother.toNat : Nat) : Int) := by congr 1; omega
      ((repeat ((conv => whnf); first | refine brT ?_ | refine brF ?_)); conv => whnf)
      refine round_end ps[k].mother.toNat ⟨by omega, by rw [← hf, hrec]⟩ (by omega) ⟨?_, ⟨rfl, trivial⟩, rfl, rfl⟩
      ((repeat ((conv => whnf); first | refine ⟨e, ?_⟩ | refine ⟨rfl, ?_⟩)); trivial)
  · have hsx : sx = 1 := by rw [eqI_f] at h1; omega
    have e1 : parS ps[k] sx = ps[k].father := by subst hsx; unfold parS; rw [eqI_refl]
    rw [e1] at hx hrec
    ((repeat ((conv => whnf); first | refine brT ?_ | refine brF ?_)); conv => whnf)
    (refine ⟨fun h2 => ?_, fun h2 => ?_⟩ <;> rw [h2])
    · rw [ltI_t] at h2
      have : ps[k].father = -1 := by rcases hx with hx | hx <;> omega
      ((repeat ((conv => whnf); first | refine brT ?_ | refine brF ?_)); conv => whnf)
      refine ⟨rfl, ?_, List.nodup_nil⟩
      rw [← hf, hrec, this]
      rw [show eqI (-1) (-1) = true from eqI_refl _]
    · rw [ltI_f] at h2
      have hne : eqI ps[k].father (-1) = false := by rw [eqI_f]; omega
      have hx2 : ps[k].father < k := by rcases hx with hx | hx <;> omega
      rw [hne] at hrec
      have e : LV.int .i64 ps[k].father = LV.int .i64 ((ps[k].father.toNat : Nat) : Int) := by congr 1; omega
      ((repeat ((conv => whnf); first | refine brT ?_ | refine brF ?_)); conv => whnf)
      refine round_end ps[k].father.toNat ⟨by omega, by rw [← hf, hrec]⟩ (by omega) ⟨?_, ⟨rfl, trivial⟩, rfl, rfl⟩
      ((repeat ((conv => whnf); first | refine ⟨e, ?_⟩ | refine ⟨rfl, ?_⟩)); trivial)
end Go.Proofs.YtgkjafmmekjjlaaGreat


namespace Go.Proofs.YtgkjafmmekjjlaaGreat
open Go.Lg Go.Pm
set_option maxHeartbeats 3200000
set_option maxRecDepth 10000
set_option linter.unusedVariables false
set_option linter.unusedSimpArgs false

theorem hasP_in {ps : List Per} {us : List Uni} {p : Int} (h : hasP ps us p = true) : 0 ≤ p ∧ p.toNat < ps.length ∧ ps.length ≤ 40 ∧ parsIn ps := by
  obtain ⟨h0, h1, h2⟩ := hasP_lt h
  obtain ⟨k1, _, k2, _⟩ := famOk_parts h2
  exact ⟨h0, h1, k1, parsIn_of k2⟩
end Go.Proofs.YtgkjafmmekjjlaaGreat

namespace Go.Proofs.YtgkjafmmekjjlaaGreat
open Go.Lg Go.Pm
set_option maxHeartbeats 3200000
set_option maxRecDepth 10000
set_option linter.unusedVariables false
set_option linter.unusedSimpArgs false

/-! ### Exogamy -/
end Go.Proofs.YtgkjafmmekjjlaaGreat

namespace Go.Proofs.YtgkjafmmekjjlaaGreat
open Go.Lg Go.Pm
set_option maxHeartbeats 3200000
set_option maxRecDepth 10000
set_option linter.unusedVariables false
set_option linter.unusedSimpArgs false

/-! ### The eldest first -/
def wantL (q : Nat → Bool) (n : Nat) : List Nat := (List.range n).filter q
theorem wantL_succ (q : Nat → Bool) (n : Nat) : wantL q (n + 1) = wantL q n ++ (match q n with | true => [n] | false => []) := by
  unfold wantL
  rw [List.range_succ, List.filter_append]
  congr 1
theorem wantL_lt {q : Nat → Bool} {n x : Nat} (h : x ∈ wantL q n) : x < n := List.mem_range.1 (List.mem_filter.1 h).1
theorem wantL_len (q : Nat → Bool) (n : Nat) : (wantL q n).length ≤ n := by
  unfold wantL; exact Nat.le_trans (List.length_filter_le _ _) (by simp)
end Go.Proofs.YtgkjafmmekjjlaaGreat


namespace Go.Proofs.YtgkjafmmekjjlaaGreat
open Go.Shelf
set_option maxRecDepth 10000
set_option linter.unusedVariables false

end Go.Proofs.YtgkjafmmekjjlaaGreat

namespace Go.Proofs.YtgkjafmmekjjlaaGreat
open Go.Lg
set_option maxHeartbeats 1600000
set_option maxRecDepth 10000
set_option linter.unusedVariables false
set_option linter.unusedSimpArgs false

end Go.Proofs.YtgkjafmmekjjlaaGreat

namespace Go.Proofs.YtgkjafmmekjjlaaGreat
open Go.Lg
set_option maxHeartbeats 1600000
set_option maxRecDepth 10000
set_option linter.unusedVariables false
set_option linter.unusedSimpArgs false

end Go.Proofs.YtgkjafmmekjjlaaGreat

namespace Go.Proofs.YtgkjafmmekjjlaaGreat
open Go.Lg
set_option maxHeartbeats 1600000
set_option maxRecDepth 10000
set_option linter.unusedVariables false
set_option linter.unusedSimpArgs false

/-! A table that is filled row by row. -/
/-! ### Steps in a family, as the model has them -/
end Go.Proofs.YtgkjafmmekjjlaaGreat


namespace Go.Proofs.YtgkjafmmekjjlaaGreat
open Go.Lg
set_option maxHeartbeats 6400000
set_option maxRecDepth 10000
set_option linter.unusedVariables false
set_option linter.unusedSimpArgs false

end Go.Proofs.YtgkjafmmekjjlaaGreat

namespace Go.Proofs.YtgkjafmmekjjlaaGreat
open Go.Lg
set_option maxHeartbeats 6400000
set_option maxRecDepth 10000
set_option linter.unusedVariables false
set_option linter.unusedSimpArgs false

end Go.Proofs.YtgkjafmmekjjlaaGreat

namespace Go.Proofs.YtgkjafmmekjjlaaGreat
open Go.Lg
set_option maxHeartbeats 6400000
set_option maxRecDepth 10000
set_option linter.unusedVariables false
set_option linter.unusedSimpArgs false

end Go.Proofs.YtgkjafmmekjjlaaGreat

namespace Go.Proofs.YtgkjafmmekjjlaaGreat
open Go.Lg
set_option maxHeartbeats 6400000
set_option maxRecDepth 10000
set_option linter.unusedVariables false
set_option linter.unusedSimpArgs false

end Go.Proofs.YtgkjafmmekjjlaaGreat

namespace Go.Proofs.YtgkjafmmekjjlaaGreat
open Go.Lg
set_option maxHeartbeats 6400000
set_option maxRecDepth 10000
set_option linter.unusedVariables false
set_option linter.unusedSimpArgs false

end Go.Proofs.YtgkjafmmekjjlaaGreat

namespace Go.Proofs.YtgkjafmmekjjlaaGreat
open Go.Lg
set_option maxHeartbeats 6400000
set_option maxRecDepth 10000
set_option linter.unusedVariables false
set_option linter.unusedSimpArgs false

end Go.Proofs.YtgkjafmmekjjlaaGreat

namespace Go.Proofs.YtgkjafmmekjjlaaGreat
open Go.Lg
set_option maxHeartbeats 3200000
set_option maxRecDepth 10000
set_option linter.unusedVariables false
set_option linter.unusedSimpArgs false

end Go.Proofs.YtgkjafmmekjjlaaGreat

namespace Go.Proofs.YtgkjafmmekjjlaaGreat
open Go.Lg
set_option maxHeartbeats 3200000
set_option maxRecDepth 10000
set_option linter.unusedVariables false
set_option linter.unusedSimpArgs false

/-! ### Steps in a family, as the program has them -/
end Go.Proofs.YtgkjafmmekjjlaaGreat

namespace Go.Proofs.YtgkjafmmekjjlaaGreat
open Go.Lg
set_option maxHeartbeats 3200000
set_option maxRecDepth 10000
set_option linter.unusedVariables false
set_option linter.unusedSimpArgs false

end Go.Proofs.YtgkjafmmekjjlaaGreat

namespace Go.Proofs.YtgkjafmmekjjlaaGreat
open Go.Lg
set_option maxHeartbeats 6400000
set_option maxRecDepth 10000
set_option linter.unusedVariables false
set_option linter.unusedSimpArgs false

end Go.Proofs.YtgkjafmmekjjlaaGreat

namespace Go.Proofs.YtgkjafmmekjjlaaGreat
open Go.Lg
set_option maxHeartbeats 6400000
set_option maxRecDepth 10000
set_option linter.unusedVariables false
set_option linter.unusedSimpArgs false

end Go.Proofs.YtgkjafmmekjjlaaGreat

namespace Go.Proofs.YtgkjafmmekjjlaaGreat
open Go.Lg
set_option maxHeartbeats 6400000
set_option maxRecDepth 10000
set_option linter.unusedVariables false
set_option linter.unusedSimpArgs false

end Go.Proofs.YtgkjafmmekjjlaaGreat

namespace Go.Proofs.YtgkjafmmekjjlaaGreat
open Go.Lg
set_option maxHeartbeats 6400000
set_option maxRecDepth 10000
set_option linter.unusedVariables false
set_option linter.unusedSimpArgs false

end Go.Proofs.YtgkjafmmekjjlaaGreat

namespace Go.Proofs.YtgkjafmmekjjlaaGreat
open Go.Lg
set_option maxHeartbeats 6400000
set_option maxRecDepth 10000
set_option linter.unusedVariables false
set_option linter.unusedSimpArgs false

end Go.Proofs.YtgkjafmmekjjlaaGreat

namespace Go.Proofs.YtgkjafmmekjjlaaGreat
open Go.Lg
set_option maxHeartbeats 3200000
set_option maxRecDepth 10000
set_option linter.unusedVariables false
set_option linter.unusedSimpArgs false

/-! ### In a valid family both ways of following a step are one -/
section
variable {ps : List Per} {us : List Uni} {s : Pr} (h : famOk ps us = true)
include h
end

end Go.Proofs.YtgkjafmmekjjlaaGreat

namespace Go.Proofs.YtgkjafmmekjjlaaGreat
open Go.Lg Go.Pm
set_option maxHeartbeats 3200000
set_option maxRecDepth 10000
set_option linter.unusedVariables false
set_option linter.unusedSimpArgs false

def rowW (q : Nat → Bool) (k : Nat) : List LV := (wantL q k).map natLV
theorem flats_rowW (q : Nat → Bool) (n : Nat) : flatsB (rowW q n) = true := by
  unfold rowW
  induction wantL q n with
  | nil => rfl
  | cons x l ih => simp [flatsB, flatB, natLV]; exact ih
end Go.Proofs.YtgkjafmmekjjlaaGreat

namespace Go.Proofs.YtgkjafmmekjjlaaGreat
open Go.Lg
set_option maxHeartbeats 6400000
set_option maxRecDepth 10000
set_option linter.unusedVariables false
set_option linter.unusedSimpArgs false

theorem WeakS.idn {n0 : Nat} {ts : List LV} {H : List Blk} (h1 : wk ts ts) (h2 : wkH n0 H H) (h3 : (scs (below H.length) ts && H.all (scB (below H.length))) = true) : Weak n0 ts H ts H := by
  simp only [Bool.and_eq_true] at h3
  exact .inl ⟨h1, h2, h3.1, h3.2⟩
end Go.Proofs.YtgkjafmmekjjlaaGreat

namespace Go.Proofs.YtgkjafmmekjjlaaGreat
open Go.Lg
set_option maxHeartbeats 1600000
set_option maxRecDepth 10000
set_option linter.unusedVariables false
set_option linter.unusedSimpArgs false

/-! ### Rows of texts -/
end Go.Proofs.YtgkjafmmekjjlaaGreat

namespace Go.Proofs.YtgkjafmmekjjlaaGreat
open Go.Lg
set_option maxHeartbeats 3200000
set_option maxRecDepth 10000
set_option linter.unusedVariables false
set_option linter.unusedSimpArgs false

end Go.Proofs.YtgkjafmmekjjlaaGreat

namespace Go.Proofs.YtgkjafmmekjjlaaGreat
open Go.Lg
set_option maxHeartbeats 3200000
set_option maxRecDepth 10000
set_option linter.unusedVariables false
set_option linter.unusedSimpArgs false

end Go.Proofs.YtgkjafmmekjjlaaGreat

namespace Go.Proofs.YtgkjafmmekjjlaaGreat
open Go.Lg
set_option maxHeartbeats 3200000
set_option maxRecDepth 10000
set_option linter.unusedVariables false
set_option linter.unusedSimpArgs false

end Go.Proofs.YtgkjafmmekjjlaaGreat

namespace Go.Proofs.YtgkjafmmekjjlaaGreat
open Go.Lg
set_option maxHeartbeats 3200000
set_option maxRecDepth 10000
set_option linter.unusedVariables false
set_option linter.unusedSimpArgs false

end Go.Proofs.YtgkjafmmekjjlaaGreat

namespace Go.Proofs.YtgkjafmmekjjlaaGreat
open Go.Lg
set_option maxHeartbeats 6400000
set_option maxRecDepth 10000
set_option linter.unusedVariables false
set_option linter.unusedSimpArgs false

end Go.Proofs.YtgkjafmmekjjlaaGreat

namespace Go.Proofs.YtgkjafmmekjjlaaGreat
open Go.Lg Go.Pm
set_option maxHeartbeats 3200000
set_option maxRecDepth 10000
set_option linter.unusedVariables false
set_option linter.unusedSimpArgs false

end Go.Proofs.YtgkjafmmekjjlaaGreat

namespace Go.Proofs.YtgkjafmmekjjlaaGreat
open Go.Lg Go.Pm
set_option maxHeartbeats 3200000
set_option maxRecDepth 10000
set_option linter.unusedVariables false
set_option linter.unusedSimpArgs false

theorem known_nn {ps : List Per} (hp : parsIn ps) {x : Nat} (h : x < ps.length) : known ps[x] = (match leI 0 ps[x].father with | true => [ps[x].father] | false => []) ++ (match leI 0 ps[x].mother with | true => [ps[x].mother] | false => []) := by
  have := hp x h
  have nn : ∀ v : Int, parIn v x → notNone v = leI 0 v := fun v hv => by
    unfold notNone
    rcases hv with rfl | ⟨h0, h1⟩
    · simp [notB, eqI, leI]
    · have e1 : eqI v (-1) = false := eqI_f.2 (by omega)
      rw [e1, leI_t.2 h0]; simp [notB]
  unfold known
  rw [← nn _ this.1, ← nn _ this.2]
  cases h1 : notNone ps[x].father <;> cases h2 : notNone ps[x].mother <;> simp [List.filter, h1, h2]
theorem l1Parents_f (ps : List Per) (us : List Uni) (hp : parsIn ps) (x : Nat) (hx : x < ps.length) : FSpec env.P 113 [famLV ps us, .int .i64 (x : Int)] (rowOw (known ps[x])) := by
  refine FSpec_of_code env_ok (fn := Tryz.f113) Tryz.func113 rfl Tryz.call113 _ _ ?_
  have hg : (ps.map Per.lv)[x]? = some ps[x].lv := by simp [hx]
  rw [known_nn hp hx]
  ((repeat ((conv => whnf); first | refine brT ?_ | refine brF ?_)); conv => whnf)
  refine ⟨x, _, rfl, hg, rfl, ?_⟩
  ((repeat ((conv => whnf); first | refine brT ?_ | refine brF ?_)); conv => whnf)
  (refine ⟨fun g1 => ?_, fun g1 => ?_⟩ <;> rw [g1])
  · ((repeat ((conv => whnf); first | refine brT ?_ | refine brF ?_)); conv => whnf)
    refine ⟨x, _, rfl, hg, rfl, ?_⟩
    ((repeat ((conv => whnf); first | refine brT ?_ | refine brF ?_)); conv => whnf)
    refine ⟨rfl, rfl, by show 1 ≤ Go.maxLen; unfold Go.maxLen; omega, by show 1 * 8 ≤ _; omega, ?_⟩
    ((repeat ((conv => whnf); first | refine brT ?_ | refine brF ?_)); conv => whnf)
    refine ⟨x, _, rfl, hg, rfl, ?_⟩
    ((repeat ((conv => whnf); first | refine brT ?_ | refine brF ?_)); conv => whnf)
    (refine ⟨fun g2 => ?_, fun g2 => ?_⟩ <;> rw [g2])
    · ((repeat ((conv => whnf); first | refine brT ?_ | refine brF ?_)); conv => whnf)
      refine ⟨x, _, rfl, hg, rfl, ?_⟩
      ((repeat ((conv => whnf); first | refine brT ?_ | refine brF ?_)); conv => whnf)
      refine ⟨rfl, rfl, by show 2 ≤ Go.maxLen; unfold Go.maxLen; omega, by show 2 * 8 ≤ _; omega, ?_⟩
      ((repeat ((conv => whnf); first | refine brT ?_ | refine brF ?_)); conv => whnf)
      exact ⟨rfl, rfl, rfl, rfl, by simp⟩
    · ((repeat ((conv => whnf); first | refine brT ?_ | refine brF ?_)); conv => whnf)
      exact ⟨rfl, rfl, rfl, rfl, by simp⟩
  · ((repeat ((conv => whnf); first | refine brT ?_ | refine brF ?_)); conv => whnf)
    refine ⟨x, _, rfl, hg, rfl, ?_⟩
    ((repeat ((conv => whnf); first | refine brT ?_ | refine brF ?_)); conv => whnf)
    (refine ⟨fun g2 => ?_, fun g2 => ?_⟩ <;> rw [g2])
    · ((repeat ((conv => whnf); first | refine brT ?_ | refine brF ?_)); conv => whnf)
      refine ⟨x, _, rfl, hg, rfl, ?_⟩
      ((repeat ((conv => whnf); first | refine brT ?_ | refine brF ?_)); conv => whnf)
      refine ⟨rfl, rfl, by show 1 ≤ Go.maxLen; unfold Go.maxLen; omega, by show 1 * 8 ≤ _; omega, ?_⟩
      ((repeat ((conv => whnf); first | refine brT ?_ | refine brF ?_)); conv => whnf)
      exact ⟨rfl, rfl, rfl, rfl, by simp⟩
    · ((repeat ((conv => whnf); first | refine brT ?_ | refine brF ?_)); conv => whnf)
      exact ⟨rfl, rfl, rfl, rfl, by simp⟩
/-- So many times what is not. -/
def noRow (k : Nat) : List LV := (List.replicate k (-1 : Int)).map intLV
theorem noRow_succ (k : Nat) : noRow k ++ [LV.int .i64 (-1)] = noRow (k + 1) := by
  unfold noRow; rw [List.replicate_succ', List.map_append]; rfl
theorem noRow_len (k : Nat) : (noRow k).length = k := by simp [noRow]
theorem rlxs_take {o : List Int} {d : Int} {qs : List Int} {i : Nat} (h : i < qs.length) : rlxs o d (qs.take (i + 1)) = rlx (rlxs o d (qs.take i)) d qs[i] := by
  unfold rlxs; rw [List.take_succ_eq_append_getElem h, List.foldl_append]; rfl
theorem up_f (ps : List Per) (us : List Uni) (hl : ps.length ≤ 40) (hp : parsIn ps) (hs : shallow (depths ps) = true) (p : Nat) (h : p < ps.length) : FSpec env.P 79 [famLV ps us, .int .i64 (p : Int)] (rowOw (upS ps p)) := by
  refine FSpec_of_code env_ok (fn := Tryz.f79) Tryz.func79 rfl Tryz.call79 _ _ ?_
  have hP : (ps.map Per.lv).length = ps.length := List.length_map ..
  have hp' : ps.length ≤ Go.maxLen := by unfold Go.maxLen; omega
  ((repeat ((conv => whnf); first | refine brT ?_ | refine brF ?_)); conv => whnf)
  intro _
  ((repeat ((conv => whnf); first | refine brT ?_ | refine brF ?_)); conv => whnf)
  rw [hP]
  refine loop_ruleR (α := Nat) [.old 0, .old 1] (fun k => [(9, .undef), (13, .int .i64 (k : Int)), (5, .hs 1 (noRow k).length)]) (fun k => [.box (famLV ps us), .arr 3 1 (noRow k)]) (fun k => ps.length - k) (fun k => k ≤ ps.length) 0 (Nat.zero_le _) ?_ ?_
  · refine ⟨?_, ⟨rfl, rfl, rfl, rfl, trivial⟩, rfl⟩
    ((repeat ((conv => whnf); refine ⟨rfl, rfl, ?_⟩)); trivial)
  intro k hk
  generalize hK : kk _ = KK
  ((repeat ((conv => whnf); first | refine brT ?_ | refine brF ?_)); conv => whnf)
  (refine ⟨fun g1 => ?_, fun g1 => ?_⟩ <;> rw [g1])
  · have hlt : k < ps.length := by rw [ltI_t] at g1; omega
    have e := step_i hlt hp'
    have hn := noRow_succ k
    have hn2 := noRow_len (k + 1)
    ((repeat ((conv => whnf); first | refine brT ?_ | refine brF ?_)); conv => whnf)
    refine ⟨rfl, rfl, ?_, ?_, ?_⟩
    · rw [hn]; unfold Go.maxLen; omega
    · rw [hn]; show (noRow (k + 1)).length * 8 ≤ _; omega
    rw [hn]
    ((repeat ((conv => whnf); first | refine brT ?_ | refine brF ?_)); conv => whnf)
    subst hK
    refine round_endR [.old 0, .old 3] (k + 1) hlt (by omega) ⟨?_, ⟨rfl, rfl, rfl, rfl, trivial⟩, rfl⟩
    ((repeat ((conv => whnf); first | refine ⟨rfl, e, ?_⟩ | refine ⟨rfl, rfl, ?_⟩)); trivial)
  have h4 : k = ps.length := by rw [ltI_f] at g1; omega
  subst h4
  subst hK
  have hset : (noRow ps.length).set p (LV.int .i64 0) = (upTo ps p 0).map intLV := by
    show ((List.replicate ps.length (-1 : Int)).map intLV).set p (intLV 0) = ((List.replicate ps.length (-1 : Int)).set p 0).map intLV
    rw [List.map_set]
  have hgp : getP (.st (noRow ps.length)) [p] = some (intLV (-1)) := by
    simp only [getP]; unfold noRow; rw [List.getElem?_map, List.getElem?_replicate, if_pos h]; rfl
  have hgn : (noRow ps.length)[p]? = some (intLV (-1)) := by
    unfold noRow; rw [List.getElem?_map, List.getElem?_replicate, if_pos h]; rfl
  have hnl := noRow_len ps.length
  have hul : ∀ j, ((upTo ps p j).map intLV).length = ps.length := fun j => by rw [List.length_map, upTo_len]
  rw [hnl]
  ((repeat ((conv => whnf); first | refine brT ?_ | refine brF ?_)); conv => whnf)
  refine ⟨hnl.symm, rfl, p, rfl, by rw [hnl]; exact h, ?_⟩
  ((repeat ((conv => whnf); first | refine brT ?_ | refine brF ?_)); conv => whnf)
  refine ⟨hnl.symm, p, [], intLV (-1), rfl, hgp, rfl, rfl, rfl, (upTo ps p 0).map intLV, by rw [hgn]; exact hset, ?_⟩
  ((repeat ((conv => whnf); first | refine brT ?_ | refine brF ?_)); conv => whnf)
  refine ⟨(hul 0).symm, fun _ => ?_⟩
  ((repeat ((conv => whnf); first | refine brT ?_ | refine brF ?_)); conv => whnf)
  rw [hul 0, wrap64 (by omega) (by omega)]
  refine loop_rule (α := Nat) (fun j => [(6, .int .i64 ((ps.length : Int) - 1 - (j : Int)))]) (fun j => [.box (famLV ps us), .arr 3 1 ((upTo ps p j).map intLV)]) (fun j => ps.length - j) (fun j => j ≤ ps.length) 0 (Nat.zero_le _) ?_ ?_
  · refine ⟨?_, ⟨rfl, rfl, trivial⟩, rfl, rfl⟩
    have e0 : LV.int .i64 ((ps.length : Int) - 1) = LV.int .i64 ((ps.length : Int) - 1 - ((0 : Nat) : Int)) := by simp
    ((repeat ((conv => whnf); first | refine ⟨e0, ?_⟩ | refine ⟨rfl, ?_⟩)); trivial)
  intro j hj
  generalize hK : kk _ = KK
  ((repeat ((conv => whnf); first | refine brT ?_ | refine brF ?_)); conv => whnf)
  (refine ⟨fun g1 => ?_, fun g1 => ?_⟩ <;> rw [g1])
  · have hlt : j < ps.length := by rw [leI_t] at g1; omega
    obtain ⟨x, hx⟩ : ∃ x, x = ps.length - 1 - j := ⟨_, rfl⟩
    have hxl : x < ps.length := by omega
    have ex : (ps.length : Int) - 1 - (j : Int) = (x : Int) := by omega
    have hR : upTo ps p (j + 1) = relax ps (upTo ps p j) x := by rw [upTo, hx]
    have inv := upTo_inv hp h j (by omega)
    rw [show ps.length - j = x + 1 by omega] at inv
    have e := step_i hlt hp'
    have eb : LV.int .i64 (IntKind.i64.wrap ((x : Int) - 1)) = LV.int .i64 ((ps.length : Int) - 1 - ((j + 1 : Nat) : Int)) := by rw [wrap64 (by omega) (by omega)]; congr 1; omega
    rw [ex]
    generalize upTo ps p j = o at inv hR ⊢
    have hol : (o.map intLV).length = ps.length := by rw [List.length_map, inv.len]
    have hox := intL_at (g := o) (i := x) (by rw [inv.len]; exact hxl)
    have hog : getP (.st (o.map intLV)) [x] = some (intLV (o.getD x 0)) := by simp only [getP]; rw [hox]
    ((repeat ((conv => whnf); first | refine brT ?_ | refine brF ?_)); conv => whnf)
    refine ⟨hol.symm, rfl, x, rfl, by rw [hol]; exact hxl, ?_⟩
    ((repeat ((conv => whnf); first | refine brT ?_ | refine brF ?_)); conv => whnf)
    refine ⟨hol.symm, by simp, intLV (o.getD x 0), hog, rfl, ?_⟩
    ((repeat ((conv => whnf); first | refine brT ?_ | refine brF ?_)); conv => whnf)
    (refine ⟨fun g2 => ?_, fun g2 => ?_⟩ <;> rw [g2])
    · have hsame : o = upTo ps p (j + 1) := by rw [hR]; unfold relax; rw [g2]
      ((repeat ((conv => whnf); first | refine brT ?_ | refine brF ?_)); conv => whnf)
      subst hK
      refine round_end (j + 1) hlt (by omega) ⟨?_, ⟨rfl, congrArg (fun o : List Int => Blk.arr 3 1 (o.map intLV)) hsame, trivial⟩, rfl, rfl⟩
      ((repeat ((conv => whnf); first | refine ⟨eb, ?_⟩ | refine ⟨rfl, ?_⟩)); trivial)
    · ((repeat ((conv => whnf); first | refine brT ?_ | refine brF ?_)); conv => whnf)
      refine ⟨_, l1Parents_f ps us hp x hxl, ?_⟩
      ((repeat ((conv => whnf); first | refine brT ?_ | refine brF ?_)); conv => whnf)
      intro _
      ((repeat ((conv => whnf); first | refine brT ?_ | refine brF ?_)); conv => whnf)
      rw [ltI_f] at g2
      have hkn := kn_in hp hxl
      have hd10 : o.getD x 0 ≤ 10 := by
        rcases inv.real x hxl with e1 | ⟨_, hu⟩
        · omega
        · have := hu.small hp hs; omega
      have hR2 : upTo ps p (j + 1) = rlxs o (o.getD x 0 + 1) (known ps[x]) := by rw [hR]; unfold relax; rw [ltI_f.2 g2, List.getElem?_eq_getElem hxl]
      have hst : ∀ i, (rlxs o (o.getD x 0 + 1) ((known ps[x]).take i)).getD x 0 = o.getD x 0 := fun i => by
        have g := (rlxs_get (n := ps.length) (d := o.getD x 0 + 1) (by omega) ((known ps[x]).take i) o inv.len (fun v hv => ⟨(hkn v (List.mem_of_mem_take hv)).1, by have := (hkn v (List.mem_of_mem_take hv)).2; omega⟩) x).1
        rcases g with g | ⟨g, _⟩
        · exact g
        · have := (hkn _ (List.mem_of_mem_take g)).2; omega
      generalize hqs : known ps[x] = qs at hkn hR2 hst
      have hq2 : qs.length ≤ 2 := by rw [← hqs]; exact known_two _
      have hQ : (qs.map intLV).length = qs.length := List.length_map ..
      rw [hQ]
      refine loop_rule (α := Nat) (fun i => [(38, .int .i64 (i : Int))]) (fun i => [.box (famLV ps us), .arr 3 1 ((rlxs o (o.getD x 0 + 1) (qs.take i)).map intLV)]) (fun i => qs.length - i) (fun i => i ≤ qs.length) 0 (Nat.zero_le _) ?_ ?_
      · refine ⟨?_, ⟨rfl, rfl, trivial⟩, rfl, rfl⟩
        ((repeat ((conv => whnf); refine ⟨rfl, ?_⟩)); trivial)
      intro i hi
      have hsti := hst i
      have hlen : (rlxs o (o.getD x 0 + 1) (qs.take i)).length = ps.length := by rw [rlxs_len, inv.len]
      have hnx : ∀ hi : i < qs.length, rlxs o (o.getD x 0 + 1) (qs.take (i + 1)) = rlx (rlxs o (o.getD x 0 + 1) (qs.take i)) (o.getD x 0 + 1) qs[i] := fun hi => rlxs_take hi
      have hal : i = qs.length → rlxs o (o.getD x 0 + 1) (qs.take i) = rlxs o (o.getD x 0 + 1) qs := fun hi => by rw [List.take_of_length_le (by omega)]
      generalize rlxs o (o.getD x 0 + 1) (qs.take i) = r at hsti hlen hnx hal ⊢
      have hrl : (r.map intLV).length = ps.length := by rw [List.length_map, hlen]
      have hlo : ps.length = (r.map intLV).length := hrl.symm
      have hrx := intL_at (g := r) (i := x) (by rw [hlen]; exact hxl)
      rw [hsti] at hrx
      have hrg : getP (.st (r.map intLV)) [x] = some (intLV (o.getD x 0)) := by simp only [getP]; rw [hrx]
      generalize hK2 : kk _ = KK2
      ((repeat ((conv => whnf); first | refine brT ?_ | refine brF ?_)); conv => whnf)
      (refine ⟨fun g3 => ?_, fun g3 => ?_⟩ <;> rw [g3])
      · have hli : i < qs.length := by rw [ltI_t] at g3; omega
        have ei := step_i hli (by unfold Go.maxLen; omega)
        have hn := hnx hli
        obtain ⟨q0, q1⟩ := hkn qs[i] (List.getElem_mem hli)
        obtain ⟨q, hq⟩ : ∃ q : Nat, qs[i] = (q : Int) := ⟨qs[i].toNat, by omega⟩
        rw [hq] at hn q1
        rw [Int.toNat_natCast] at q1
        have hrq := intL_at (g := r) (i := q) (by rw [hlen]; omega)
        have hrh : getP (.st (r.map intLV)) [q] = some (intLV (r.getD q 0)) := by simp only [getP]; rw [hrq]
        ((repeat ((conv => whnf); first | refine brT ?_ | refine brF ?_)); conv => whnf)
        refine ⟨i, intLV (q : Int), rfl, by rw [List.getElem?_map, List.getElem?_eq_getElem hli, hq]; rfl, rfl, ?_⟩
        ((repeat ((conv => whnf); first | refine brT ?_ | refine brF ?_)); conv => whnf)
        refine ⟨true, by kernel_rfl, ?_⟩
        ((repeat ((conv => whnf); first | refine brT ?_ | refine brF ?_)); conv => whnf)
        refine ⟨hlo, rfl, q, rfl, by rw [hrl]; omega, ?_⟩
        ((repeat ((conv => whnf); first | refine brT ?_ | refine brF ?_)); conv => whnf)
        refine ⟨hlo, by simp, intLV (r.getD q 0), hrh, rfl, ?_⟩
        ((repeat ((conv => whnf); first | refine brT ?_ | refine brF ?_)); conv => whnf)
        have wr1 : IntKind.i64.wrap (o.getD x 0 + 1) = o.getD x 0 + 1 := wrap64 (by omega) (by omega)
        have hset : (ltI (r.getD q 0) 0 || ltI (o.getD x 0 + 1) (r.getD q 0)) = true → (rlx r (o.getD x 0 + 1) (q : Int)).map intLV = (r.map intLV).set q (intLV (o.getD x 0 + 1)) := fun hc => by
          unfold rlx; rw [Int.toNat_natCast, hc, List.map_set]
        have hkeep : (ltI (r.getD q 0) 0 || ltI (o.getD x 0 + 1) (r.getD q 0)) = false → rlx r (o.getD x 0 + 1) (q : Int) = r := fun hc => by
          unfold rlx; rw [Int.toNat_natCast, hc]
        (refine ⟨fun g4 => ?_, fun g4 => ?_⟩ <;> rw [g4])
        · ((repeat ((conv => whnf); first | refine brT ?_ | refine brF ?_)); conv => whnf)
          refine ⟨hlo, rfl, x, rfl, by rw [hrl]; exact hxl, ?_⟩
          ((repeat ((conv => whnf); first | refine brT ?_ | refine brF ?_)); conv => whnf)
          refine ⟨hlo, by simp, intLV (o.getD x 0), hrg, rfl, ?_⟩
          ((repeat ((conv => whnf); first | refine brT ?_ | refine brF ?_)); conv => whnf)
          refine ⟨hlo, rfl, q, rfl, by rw [hrl]; omega, ?_⟩
          ((repeat ((conv => whnf); first | refine brT ?_ | refine brF ?_)); conv => whnf)
          refine ⟨hlo, q, [], intLV (r.getD q 0), rfl, hrh, rfl, rfl, rfl, (rlxs o (o.getD x 0 + 1) (qs.take (i + 1))).map intLV, by rw [hrq]; show (r.map intLV).set q (.int .i64 (IntKind.i64.wrap (o.getD x 0 + 1))) = _; rw [wr1, hn, hset (by rw [g4]; rfl)]; rfl, ?_⟩
          ((repeat ((conv => whnf); first | refine brT ?_ | refine brF ?_)); conv => whnf)
          subst hK2
          refine round_end (i + 1) hli (by omega) ⟨?_, ⟨rfl, rfl, trivial⟩, rfl, rfl⟩
          ((repeat ((conv => whnf); first | refine ⟨ei, ?_⟩ | refine ⟨rfl, ?_⟩)); trivial)
        · ((repeat ((conv => whnf); first | refine brT ?_ | refine brF ?_)); conv => whnf)
          refine ⟨hlo, rfl, q, rfl, by rw [hrl]; omega, ?_⟩
          ((repeat ((conv => whnf); first | refine brT ?_ | refine brF ?_)); conv => whnf)
          refine ⟨hlo, by simp, intLV (r.getD q 0), hrh, rfl, ?_⟩
          ((repeat ((conv => whnf); first | refine brT ?_ | refine brF ?_)); conv => whnf)
          refine ⟨hlo, rfl, x, rfl, by rw [hrl]; exact hxl, ?_⟩
          ((repeat ((conv => whnf); first | refine brT ?_ | refine brF ?_)); conv => whnf)
          refine ⟨hlo, by simp, intLV (o.getD x 0), hrg, rfl, ?_⟩
          ((repeat ((conv => whnf); first | refine brT ?_ | refine brF ?_)); conv => whnf)
          rw [wr1]
          (refine ⟨fun g5 => ?_, fun g5 => ?_⟩ <;> rw [g5])
          · ((repeat ((conv => whnf); first | refine brT ?_ | refine brF ?_)); conv => whnf)
            refine ⟨hlo, rfl, x, rfl, by rw [hrl]; exact hxl, ?_⟩
            ((repeat ((conv => whnf); first | refine brT ?_ | refine brF ?_)); conv => whnf)
            refine ⟨hlo, by simp, intLV (o.getD x 0), hrg, rfl, ?_⟩
            ((repeat ((conv => whnf); first | refine brT ?_ | refine brF ?_)); conv => whnf)
            refine ⟨hlo, rfl, q, rfl, by rw [hrl]; omega, ?_⟩
            ((repeat ((conv => whnf); first | refine brT ?_ | refine brF ?_)); conv => whnf)
            refine ⟨hlo, q, [], intLV (r.getD q 0), rfl, hrh, rfl, rfl, rfl, (rlxs o (o.getD x 0 + 1) (qs.take (i + 1))).map intLV, by rw [hrq]; show (r.map intLV).set q (.int .i64 (IntKind.i64.wrap (o.getD x 0 + 1))) = _; rw [wr1, hn, hset (by rw [g4, g5]; rfl)]; rfl, ?_⟩
            ((repeat ((conv => whnf); first | refine brT ?_ | refine brF ?_)); conv => whnf)
            subst hK2
            refine round_end (i + 1) hli (by omega) ⟨?_, ⟨rfl, rfl, trivial⟩, rfl, rfl⟩
            ((repeat ((conv => whnf); first | refine ⟨ei, ?_⟩ | refine ⟨rfl, ?_⟩)); trivial)
          · have hk0 := hkeep (by rw [g4, g5]; rfl)
            rw [← hn] at hk0
            ((repeat ((conv => whnf); first | refine brT ?_ | refine brF ?_)); conv => whnf)
            subst hK2
            refine round_end (i + 1) hli (by omega) ⟨?_, ⟨rfl, congrArg (fun o : List Int => Blk.arr 3 1 (o.map intLV)) hk0.symm, trivial⟩, rfl, rfl⟩
            ((repeat ((conv => whnf); first | refine ⟨ei, ?_⟩ | refine ⟨rfl, ?_⟩)); trivial)
      · have h5 : i = qs.length := by rw [ltI_f] at g3; omega
        have ha := hal h5
        rw [← hR2] at ha
        subst hK2
        ((repeat ((conv => whnf); first | refine brT ?_ | refine brF ?_)); conv => whnf)
        subst hK
        refine round_end (j + 1) hlt (by omega) ⟨?_, ⟨rfl, congrArg (fun o : List Int => Blk.arr 3 1 (o.map intLV)) ha, trivial⟩, rfl, rfl⟩
        ((repeat ((conv => whnf); first | refine ⟨eb, ?_⟩ | refine ⟨rfl, ?_⟩)); trivial)
  · have h5 : j = ps.length := by rw [leI_f] at g1; omega
    subst h5
    subst hK
    ((repeat ((conv => whnf); first | refine brT ?_ | refine brF ?_)); conv => whnf)
    exact ⟨(hul _).symm, rfl, rfl, rfl, by simp⟩
end Go.Proofs.YtgkjafmmekjjlaaGreat


namespace Go.Proofs.YtgkjafmmekjjlaaGreat
open Go.Lg Go.Pm
set_option maxHeartbeats 3200000
set_option maxRecDepth 10000
set_option linter.unusedVariables false
set_option linter.unusedSimpArgs false

theorem nats_f {f : FuncId} {args : List LV} {xs : List Nat} (h : HSpec env.P f args [] (.hs 0 (xs.map natLV).length) [.arr 3 1 (xs.map natLV)]) : FSpec env.P f args (.own 3 1 (xs.map natLV)) :=
  FSpec_of_HSpec h (by simp [exW])
def castL (xs : List Nat) : List Int := xs.map fun n : Nat => (n : Int)
theorem castL_map (xs : List Nat) : xs.map natLV = (castL xs).map intLV := by unfold castL; rw [List.map_map]; rfl
theorem castL_len (xs : List Nat) : (castL xs).length = xs.length := List.length_map ..
theorem ints_h {f : FuncId} {args : List LV} {xs : List Nat} (h : HSpec env.P f args [] (.hs 0 (xs.map natLV).length) [.arr 3 1 (xs.map natLV)]) : HSpec env.P f args [] (.hs 0 ((castL xs).map intLV).length) [.arr 3 1 ((castL xs).map intLV)] := by
  rw [castL_map] at h; exact h
end Go.Proofs.YtgkjafmmekjjlaaGreat
