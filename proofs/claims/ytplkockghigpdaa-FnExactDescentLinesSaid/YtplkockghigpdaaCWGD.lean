/- Contracts of functions of the program and of its model, told over readings. -/
import Derived.Test.YtplkockghigpdaaCWGC
import Derived.Test.YtplkockghigpdaaCLgWS
import Derived.Test.YtplkockghigpdaaCLgMF
import Derived.Test.YtplkockghigpdaaCWGA
import Derived.Test.YtplkockghigpdaaCLgSO
import Derived.Shelf.SlSortCmp.NoneTotal
import Derived.Test.YtplkockghigpdaaChecked
import Derived.Test.YtplkockghigpdaaCLgRM
namespace Go.Proofs.Ytplkockghigpdaa
open Go.Lg
set_option maxHeartbeats 1600000
set_option maxRecDepth 10000
set_option linter.unusedVariables false
set_option linter.unusedSimpArgs false

structure RowsLen (rows : List (List Int)) : Prop where
  n : rows.length ≤ Go.maxLen
  each : ∀ r ∈ rows, r.length ≤ Go.maxLen

end Go.Proofs.Ytplkockghigpdaa

namespace Go.Proofs.Ytplkockghigpdaa
open Go.Lg Go.Pm
set_option maxHeartbeats 3200000
set_option maxRecDepth 10000
set_option linter.unusedVariables false
set_option linter.unusedSimpArgs false

end Go.Proofs.Ytplkockghigpdaa

namespace Go.Proofs.Ytplkockghigpdaa
open Go.Lg
set_option maxHeartbeats 1600000
set_option maxRecDepth 10000
set_option linter.unusedVariables false
set_option linter.unusedSimpArgs false

/-! ### Bits -/
end Go.Proofs.Ytplkockghigpdaa

namespace Go.Proofs.Ytplkockghigpdaa
open Go.Lg
set_option maxHeartbeats 1600000
set_option maxRecDepth 10000
set_option linter.unusedVariables false
set_option linter.unusedSimpArgs false

theorem rowFrom_cons {n last b : Int} {bs : List Int} (h : rowFrom n last (b :: bs) = true) : last < b ∧ b < n ∧ rowFrom n b bs = true := by
  simp only [rowFrom] at h
  split at h
  · cases h
  · rename_i h1
    split at h
    · cases h
    · rename_i h2
      rw [leI_f] at h1 h2
      exact ⟨h1, h2, h⟩
theorem rowFrom_len : ∀ {r : List Int} {n last : Int}, rowFrom n last r = true → (r.length : Int) + last ≤ n - 1 ∨ r = []
  | [], _, _, _ => .inr rfl
  | x :: xs, n, last, h => by
    obtain ⟨h1, h2, h3⟩ := rowFrom_cons h
    left
    rcases rowFrom_len h3 with h4 | rfl
    · simp only [List.length_cons]; omega
    · simp; omega
structure RelIn (n : Int) (rows : List (List Int)) : Prop where
  lo : 0 ≤ n
  hi : n ≤ 40
  len : (rows.length : Int) = n
  row : ∀ r ∈ rows, rowFrom n (-1) r = true
theorem RelIn.rlen {n : Int} {rows : List (List Int)} (h : RelIn n rows) {r : List Int} (hr : r ∈ rows) : r.length ≤ 40 := by
  have h1 := h.hi
  rcases rowFrom_len (h.row r hr) with h2 | rfl
  · omega
  · simp

/-! ### Pairs -/
structure Pr where
  a : Int
  b : Int
def Pr.lv (p : Pr) : LV := .st [.int .i64 p.a, .int .i64 p.b]
theorem tot_le {m : Nat} : ∀ {rows : List (List Int)}, (∀ r ∈ rows, r.length ≤ m) → tot rows ≤ rows.length * m
  | [], _ => by simp [tot]
  | r :: rs, h => by
    have h1 := h r (by simp)
    have h2 := tot_le (rows := rs) fun q hq => h q (by simp [hq])
    rw [tot_cons, List.length_cons, Nat.succ_mul]; omega
theorem RelIn.tot {n : Int} {rows : List (List Int)} (h : RelIn n rows) : tot rows ≤ 1600 := by
  have h1 := tot_le (rows := rows) (m := 40) fun r hr => h.rlen hr
  have h2 : rows.length ≤ 40 := by have := h.len; have := h.hi; omega
  have := Nat.mul_le_mul_right 40 h2
  omega
end Go.Proofs.Ytplkockghigpdaa


namespace Go.Proofs.Ytplkockghigpdaa
open Go.Lg
set_option maxHeartbeats 1600000
set_option maxRecDepth 10000
set_option linter.unusedVariables false
set_option linter.unusedSimpArgs false

end Go.Proofs.Ytplkockghigpdaa

namespace Go.Proofs.Ytplkockghigpdaa
open Go.Lg
set_option maxHeartbeats 1600000
set_option maxRecDepth 10000
set_option linter.unusedVariables false
set_option linter.unusedSimpArgs false

theorem flatTs_rows : ∀ rows : List (List Int), flatTs (rows.map rowOw) = true
  | [] => rfl
  | r :: rs => by simp only [List.map_cons, flatTs, Bool.and_eq_true]; exact ⟨by simp only [rowOw, flatT1]; exact flats_ints r, flatTs_rows rs⟩

end Go.Proofs.Ytplkockghigpdaa

namespace Go.Proofs.Ytplkockghigpdaa
open Go.Lg
set_option maxHeartbeats 1600000
set_option maxRecDepth 10000
set_option linter.unusedVariables false
set_option linter.unusedSimpArgs false

end Go.Proofs.Ytplkockghigpdaa

namespace Go.Proofs.Ytplkockghigpdaa
open Go.Lg
set_option maxHeartbeats 1600000
set_option maxRecDepth 10000
set_option linter.unusedVariables false
set_option linter.unusedSimpArgs false

end Go.Proofs.Ytplkockghigpdaa

namespace Go.Proofs.Ytplkockghigpdaa
open Go.Lg
set_option maxHeartbeats 1600000
set_option maxRecDepth 10000
set_option linter.unusedVariables false
set_option linter.unusedSimpArgs false

end Go.Proofs.Ytplkockghigpdaa

namespace Go.Proofs.Ytplkockghigpdaa
open Go.Lg
set_option maxHeartbeats 1600000
set_option maxRecDepth 10000
set_option linter.unusedVariables false
set_option linter.unusedSimpArgs false

def idxOf : Nat → List Int → Int → Int
  | _, [], _ => -1
  | k, x :: xs, v => match eqI v x with | true => (k : Int) | false => idxOf (k + 1) xs v
end Go.Proofs.Ytplkockghigpdaa

namespace Go.Proofs.Ytplkockghigpdaa
open Go.Lg
set_option maxHeartbeats 1600000
set_option maxRecDepth 10000
set_option linter.unusedVariables false
set_option linter.unusedSimpArgs false

/-! ### Tables and sets of one predicate -/
/-! ### Sets -/
/-! ### Rounds -/
end Go.Proofs.Ytplkockghigpdaa


namespace Go.Proofs.Ytplkockghigpdaa
open Go.Lg
set_option maxHeartbeats 1600000
set_option maxRecDepth 10000
set_option linter.unusedVariables false
set_option linter.unusedSimpArgs false

theorem RelIn.size {n : Int} {rows : List (List Int)} (h : RelIn n rows) : rows.length ≤ 40 := by have := h.len; have := h.hi; omega
end Go.Proofs.Ytplkockghigpdaa

namespace Go.Proofs.Ytplkockghigpdaa
open Go.Lg
set_option maxHeartbeats 1600000
set_option maxRecDepth 10000
set_option linter.unusedVariables false
set_option linter.unusedSimpArgs false

end Go.Proofs.Ytplkockghigpdaa

namespace Go.Proofs.Ytplkockghigpdaa
open Go.Lg
set_option maxHeartbeats 1600000
set_option maxRecDepth 10000
set_option linter.unusedVariables false
set_option linter.unusedSimpArgs false

/-! ### The closure, by rows and place by place -/
end Go.Proofs.Ytplkockghigpdaa

namespace Go.Proofs.Ytplkockghigpdaa
open Go.Lg
set_option maxHeartbeats 1600000
set_option maxRecDepth 10000
set_option linter.unusedVariables false
set_option linter.unusedSimpArgs false

/-! ### Composition -/
end Go.Proofs.Ytplkockghigpdaa

namespace Go.Proofs.Ytplkockghigpdaa
open Go.Lg
set_option maxHeartbeats 1600000
set_option maxRecDepth 10000
set_option linter.unusedVariables false
set_option linter.unusedSimpArgs false

end Go.Proofs.Ytplkockghigpdaa

namespace Go.Proofs.Ytplkockghigpdaa
open Go.Lg
set_option maxHeartbeats 1600000
set_option maxRecDepth 10000
set_option linter.unusedVariables false
set_option linter.unusedSimpArgs false

/-! ### Composition place by place -/
end Go.Proofs.Ytplkockghigpdaa

namespace Go.Proofs.Ytplkockghigpdaa
open Go.Lg
set_option maxHeartbeats 1600000
set_option maxRecDepth 10000
set_option linter.unusedVariables false
set_option linter.unusedSimpArgs false

end Go.Proofs.Ytplkockghigpdaa

namespace Go.Proofs.Ytplkockghigpdaa
open Go.Lg
set_option maxHeartbeats 1600000
set_option maxRecDepth 10000
set_option linter.unusedVariables false
set_option linter.unusedSimpArgs false

end Go.Proofs.Ytplkockghigpdaa

namespace Go.Proofs.Ytplkockghigpdaa
open Go.Lg
set_option maxHeartbeats 1600000
set_option maxRecDepth 10000
set_option linter.unusedVariables false
set_option linter.unusedSimpArgs false

end Go.Proofs.Ytplkockghigpdaa

namespace Go.Proofs.Ytplkockghigpdaa
open Go.Lg
set_option maxHeartbeats 1600000
set_option maxRecDepth 10000
set_option linter.unusedVariables false
set_option linter.unusedSimpArgs false

end Go.Proofs.Ytplkockghigpdaa

namespace Go.Proofs.Ytplkockghigpdaa
open Go.Lg
set_option maxHeartbeats 1600000
set_option maxRecDepth 10000
set_option linter.unusedVariables false
set_option linter.unusedSimpArgs false

def Pr.eq (p q : Pr) : Bool := eqI p.a q.a && eqI p.b q.b
theorem Pr.eq_refl (p : Pr) : p.eq p = true := by simp [Pr.eq, eqI_refl]
theorem eqPairS_refl (ps : List Pr) : eqList Pr.eq ps ps = true := eqList_refl Pr.eq_refl ps

end Go.Proofs.Ytplkockghigpdaa

namespace Go.Proofs.Ytplkockghigpdaa
open Go.Lg
set_option maxHeartbeats 1600000
set_option maxRecDepth 10000
set_option linter.unusedVariables false
set_option linter.unusedSimpArgs false

/-! ### Wrappers of the model -/
/-! ### Equality -/
end Go.Proofs.Ytplkockghigpdaa

namespace Go.Proofs.Ytplkockghigpdaa
open Go.Lg
set_option maxHeartbeats 1600000
set_option maxRecDepth 10000
set_option linter.unusedVariables false
set_option linter.unusedSimpArgs false

end Go.Proofs.Ytplkockghigpdaa

namespace Go.Proofs.Ytplkockghigpdaa
open Go.Lg
set_option maxHeartbeats 1600000
set_option maxRecDepth 10000
set_option linter.unusedVariables false
set_option linter.unusedSimpArgs false

end Go.Proofs.Ytplkockghigpdaa

namespace Go.Proofs.Ytplkockghigpdaa
open Go.Lg
set_option maxHeartbeats 1600000
set_option maxRecDepth 10000
set_option linter.unusedVariables false
set_option linter.unusedSimpArgs false

end Go.Proofs.Ytplkockghigpdaa

namespace Go.Proofs.Ytplkockghigpdaa
open Go.Lg
set_option maxHeartbeats 1600000
set_option maxRecDepth 10000
set_option linter.unusedVariables false
set_option linter.unusedSimpArgs false

end Go.Proofs.Ytplkockghigpdaa

namespace Go.Proofs.Ytplkockghigpdaa
open Go.Lg
set_option maxHeartbeats 1600000
set_option maxRecDepth 10000
set_option linter.unusedVariables false
set_option linter.unusedSimpArgs false

/-! A step is a pair: its kind and its age. -/
end Go.Proofs.Ytplkockghigpdaa

namespace Go.Proofs.Ytplkockghigpdaa
open Go.Lg
set_option maxHeartbeats 1600000
set_option maxRecDepth 10000
set_option linter.unusedVariables false
set_option linter.unusedSimpArgs false

end Go.Proofs.Ytplkockghigpdaa

namespace Go.Proofs.Ytplkockghigpdaa
open Go.Lg
set_option maxHeartbeats 1600000
set_option maxRecDepth 10000
set_option linter.unusedVariables false
set_option linter.unusedSimpArgs false

end Go.Proofs.Ytplkockghigpdaa

namespace Go.Proofs.Ytplkockghigpdaa
open Go.Lg Go.Pm
set_option maxHeartbeats 3200000
set_option maxRecDepth 10000
set_option linter.unusedVariables false
set_option linter.unusedSimpArgs false

/-! ### Classes -/
end Go.Proofs.Ytplkockghigpdaa


namespace Go.Proofs.Ytplkockghigpdaa
open Go.Lg Go.Pm
set_option maxHeartbeats 3200000
set_option maxRecDepth 10000
set_option linter.unusedVariables false
set_option linter.unusedSimpArgs false

/-! ### No class marries itself -/
end Go.Proofs.Ytplkockghigpdaa


namespace Go.Proofs.Ytplkockghigpdaa
open Go.Lg Go.Pm
set_option maxHeartbeats 6400000
set_option maxRecDepth 10000
set_option linter.unusedVariables false
set_option linter.unusedSimpArgs false

end Go.Proofs.Ytplkockghigpdaa


namespace Go.Proofs.Ytplkockghigpdaa
open Go.Lg
set_option maxHeartbeats 1600000
set_option maxRecDepth 10000
set_option linter.unusedVariables false
set_option linter.unusedSimpArgs false

/-! A rule: its name, its sex and place, the steps that it replaces and by which. -/
structure Rul where
  name : ByteArray
  sex : Int
  place : Int
  fr : List Pr
  to : List Pr
def Rul.lv (r : Rul) : LV := .st [.str r.name, .int .i64 r.sex, .int .i64 r.place, .sl (r.fr.map Pr.lv), .sl (r.to.map Pr.lv)]
def Rul.own (r : Rul) (e : Nat) : LV := .st [.str r.name, .int .i64 r.sex, .int .i64 r.place, .own e 2 (r.fr.map Pr.lv), .own e 2 (r.to.map Pr.lv)]
def Rul.eq (r s : Rul) : Bool := eqS r.name s.name && (eqI r.sex s.sex && (eqI r.place s.place && (eqList Pr.eq r.fr s.fr && eqList Pr.eq r.to s.to)))
theorem Rul.eq_refl (r : Rul) : r.eq r = true := by simp [Rul.eq, eqS_refl, eqI_refl, eqPairS_refl]

/-! Comparisons of steps. -/
end Go.Proofs.Ytplkockghigpdaa


namespace Go.Proofs.Ytplkockghigpdaa
open Go.Lg
set_option maxHeartbeats 1600000
set_option maxRecDepth 10000
set_option linter.unusedVariables false
set_option linter.unusedSimpArgs false

end Go.Proofs.Ytplkockghigpdaa

namespace Go.Proofs.Ytplkockghigpdaa
open Go.Lg Go.Pm
set_option maxHeartbeats 6400000
set_option maxRecDepth 10000
set_option linter.unusedVariables false
set_option linter.unusedSimpArgs false

/-! ### Types as permutations -/
theorem idx {q : List Int} {y : Int} (e1 : 0 ≤ y) (e2 : y.toNat < q.length) : y = ((y.toNat : Nat) : Int) ∧ (q.map intLV)[y.toNat]? = some (intLV (q.getD y.toNat 0)) :=
  ⟨by omega, by rw [List.getElem?_map, List.getElem?_eq_getElem e2, getD_lt e2]; rfl⟩
end Go.Proofs.Ytplkockghigpdaa


namespace Go.Proofs.Ytplkockghigpdaa
open Go.Lg
set_option maxHeartbeats 3200000
set_option maxRecDepth 10000
set_option linter.unusedVariables false
set_option linter.unusedSimpArgs false

/-! ### The table of least steps -/
/-- The rows that are ready, nothing behind them. -/
def upRow (ps : List Per) (k : Nat) : List LV := (clTo ps k).map rowSl ++ List.replicate (ps.length - k) .nil
theorem upRow_len {ps : List Per} {k : Nat} (h : k ≤ ps.length) : (upRow ps k).length = ps.length := by
  simp [upRow, clTo_len]; omega
theorem upRow_at {ps : List Per} {k : Nat} (h : k < ps.length) : (upRow ps k)[k]? = some .nil := by
  unfold upRow
  rw [List.getElem?_append_right (by simp [clTo_len]), List.length_map, clTo_len, Nat.sub_self, List.getElem?_replicate, if_pos (by omega)]
/-- The rows while one is being made. -/
def curRow (ps : List Per) (k : Nat) (R : List Int) : List LV := (clTo ps k).map rowSl ++ rowOw R :: List.replicate (ps.length - k - 1) .nil
theorem cl_mlen (ps : List Per) (k : Nat) : ((clTo ps k).map rowSl).length = k := by rw [List.length_map, clTo_len]
theorem curRow_len {ps : List Per} {k : Nat} {R : List Int} (h : k < ps.length) : (curRow ps k R).length = ps.length := by
  simp [curRow, clTo_len]; omega
theorem curRow_at (ps : List Per) (k : Nat) (R : List Int) : (curRow ps k R)[k]? = some (rowOw R) := by
  unfold curRow
  rw [List.getElem?_append_right (by rw [cl_mlen]; exact Nat.le_refl _), cl_mlen, Nat.sub_self]; rfl
theorem curRow_lt {ps : List Per} {k i : Nat} {R : List Int} (h : i < k) : (curRow ps k R)[i]? = some (rowSl ((clTo ps k).getD i [])) := by
  have hl : i < (clTo ps k).length := by rw [clTo_len]; exact h
  unfold curRow
  rw [List.getElem?_append_left (by simpa using hl), List.getElem?_map, List.getD_eq_getElem?_getD, List.getElem?_eq_getElem hl]; rfl
theorem upRow_set {ps : List Per} {k : Nat} (h : k < ps.length) (R : List Int) : (upRow ps k).set k (rowOw R) = curRow ps k R := by
  unfold upRow curRow
  rw [List.set_append_right _ _ (by rw [cl_mlen]; exact Nat.le_refl _), cl_mlen, Nat.sub_self, show ps.length - k = (ps.length - k - 1) + 1 by omega, List.replicate_succ, List.set_cons_zero]
  rfl
theorem curRow_set (ps : List Per) (k : Nat) (R : List Int) (y : LV) : (curRow ps k R).set k y = (clTo ps k).map rowSl ++ y :: List.replicate (ps.length - k - 1) .nil := by
  unfold curRow
  rw [List.set_append_right _ _ (by rw [cl_mlen]; exact Nat.le_refl _), cl_mlen, Nat.sub_self, List.set_cons_zero]
theorem curRow_fz {ps : List Per} {k : Nat} (h : k < ps.length) {R : List Int} (e : R = (clRow0 (clTo ps k) ps.length k (known ps[k])).set k 0) : (clTo ps k).map rowSl ++ rowSl R :: List.replicate (ps.length - k - 1) .nil = upRow ps (k + 1) := by
  unfold upRow
  have : clTo ps (k + 1) = clTo ps k ++ [R] := by rw [clTo, List.getElem?_eq_getElem h, e]
  rw [this, List.map_append, List.append_assoc, show ps.length - k - 1 = ps.length - (k + 1) by omega]
  rfl
/-- The row behind so many parents. -/
def clP (up : List (List Int)) (n : Nat) (qs : List Int) (j : Nat) : List Int := (qs.take j).foldl (fun row x => clRow row (up.getD x.toNat [])) (List.replicate n 11)
theorem clP_succ {up : List (List Int)} {n : Nat} {qs : List Int} {j : Nat} (h : j < qs.length) : clP up n qs (j + 1) = clRow (clP up n qs j) (up.getD qs[j].toNat []) := by
  unfold clP; rw [List.take_succ_eq_append_getElem h, List.foldl_append]; rfl
theorem clP_len {up : List (List Int)} {n : Nat} {qs : List Int} (h : ∀ x ∈ qs, (up.getD x.toNat []).length = n) : ∀ j, j ≤ qs.length → (clP up n qs j).length = n
  | 0, _ => by simp [clP]
  | j + 1, hj => by
    rw [clP_succ (by omega)]
    exact clRow_len (clP_len h j (by omega)) (h _ (List.getElem_mem _))
theorem intL_at {g : List Int} {i : Nat} (h : i < g.length) : (g.map intLV)[i]? = some (intLV (g.getD i 0)) := by
  rw [List.getElem?_map, List.getElem?_eq_getElem h, List.getD_eq_getElem?_getD, List.getElem?_eq_getElem h]; rfl
/-- The row behind so many persons. -/
def clQ (row pr : List Int) (q : Nat) : List Int := (clRow row pr).take q ++ row.drop q
theorem clQ_len {row pr : List Int} {n q : Nat} (h1 : row.length = n) (h2 : pr.length = n) (hq : q ≤ n) : (clQ row pr q).length = n := by
  unfold clQ; simp [clRow_len h1 h2, h1]; omega
theorem clQ_all {row pr : List Int} {n : Nat} (h1 : row.length = n) (h2 : pr.length = n) : clQ row pr n = clRow row pr := by
  unfold clQ; rw [List.take_of_length_le (by rw [clRow_len h1 h2]; exact Nat.le_refl _), List.drop_eq_nil_of_le (by omega), List.append_nil]
theorem clQ_at {row pr : List Int} {n q : Nat} (h1 : row.length = n) (h2 : pr.length = n) (hq : q < n) : (clQ row pr q).getD q 0 = row.getD q 0 := by
  have hl := clRow_len h1 h2
  unfold clQ
  simp only [List.getD_eq_getElem?_getD]
  rw [List.getElem?_append_right (by rw [List.length_take, hl]; omega), List.length_take, hl, Nat.min_eq_left (by omega), Nat.sub_self, List.getElem?_drop, Nat.add_zero]
theorem clQ_set {row pr : List Int} {n q : Nat} (h1 : row.length = n) (h2 : pr.length = n) (hq : q < n) : (clQ row pr q).set q (minI (row.getD q 0) (pr.getD q 0 + 1)) = clQ row pr (q + 1) := by
  have hl := clRow_len h1 h2
  have hg : (clRow row pr)[q]? = some (minI (row.getD q 0) (pr.getD q 0 + 1)) := by
    have := clRow_get (row := row) (pr := pr) (j := q) (by omega) (by omega)
    rw [← this, List.getD_eq_getElem?_getD, List.getElem?_eq_getElem (by omega)]; rfl
  unfold clQ
  rw [List.set_append_right _ _ (by rw [List.length_take, hl]; omega), List.length_take, hl, Nat.min_eq_left (by omega), Nat.sub_self, List.drop_eq_getElem_cons (by omega), List.set_cons_zero,
    List.take_add_one, hg, List.append_assoc]
  rfl
theorem cl_bound {ps : List Per} (hp : parsIn ps) (hs : shallow (depths ps) = true) {k i q : Nat} (hk : k ≤ ps.length) (hi : i < k) (hq : q < ps.length) : 0 ≤ ((clTo ps k).getD i []).getD q 0 ∧ ((clTo ps k).getD i []).getD q 0 ≤ 11 := by
  rw [(cl_good hp hs k hk i hi).2 q hq]
  have := upd_small hp hs (p := i) (q := q) (by omega) hq
  unfold tooF
  split
  · omega
  · rename_i h; rw [ltI_f] at h; omega
theorem climbs_h (ps : List Per) (us : List Uni) (hl : ps.length ≤ 40) (hp : parsIn ps) (hs : shallow (depths ps) = true) :
    HSpec env.P 96 [famLV ps us] [] (.hs 0 ((clT ps).map rowSl).length) [.tree 27 1 ((clT ps).map rowSl)] := by
  refine HSpec_of_code (E := env.x [145] 0) env_ok.x (fn := Try.f96) Try.func96 rfl Try.call96 _ _ _ _ ?_
  have hP : (ps.map Per.lv).length = ps.length := List.length_map ..
  have hp' : ps.length ≤ Go.maxLen := by unfold Go.maxLen; omega
  ((repeat ((conv => whnf); first | refine brT ?_ | refine brF ?_)); conv => whnf)
  intro _
  ((repeat ((conv => whnf); first | refine brT ?_ | refine brF ?_)); conv => whnf)
  refine ⟨ps.length, by rw [hP], by rw [hP], by show 24 * ps.length ≤ _; omega, hp', rfl, by decide, ?_⟩
  ((repeat ((conv => whnf); first | refine brT ?_ | refine brF ?_)); conv => whnf)
  intro _
  ((repeat ((conv => whnf); first | refine brT ?_ | refine brF ?_)); conv => whnf)
  rw [hP]
  refine loop_ruleR (α := Nat) [.old 0, .old 1] (fun k => [(17, .int .i64 (k : Int))]) (fun k => [.box (famLV ps us), .tree 27 1 (upRow ps k)]) (fun k => ps.length - k) (fun k => k ≤ ps.length) 0 (Nat.zero_le _) ?_ ?_
  · refine ⟨?_, ⟨rfl, rfl, rfl, congrArg (Blk.tree 27 1) (by simp [upRow, clTo]), trivial⟩, rfl⟩
    ((repeat ((conv => whnf); refine ⟨rfl, rfl, ?_⟩)); trivial)
  intro k hk
  generalize hK : kk _ = KK
  ((repeat ((conv => whnf); first | refine brT ?_ | refine brF ?_)); conv => whnf)
  (refine ⟨fun g1 => ?_, fun g1 => ?_⟩ <;> rw [g1])
  · have hlt : k < ps.length := by rw [ltI_t] at g1; omega
    have e := step_i hlt hp'
    ((repeat ((conv => whnf); first | refine brT ?_ | refine brF ?_)); conv => whnf)
    refine ⟨k, ps[k].lv, rfl, by simp [hlt], rfl, ?_⟩
    ((repeat ((conv => whnf); first | refine brT ?_ | refine brF ?_)); conv => whnf)
    intro _
    ((repeat ((conv => whnf); first | refine brT ?_ | refine brF ?_)); conv => whnf)
    rw [hP]
    have hrep := repeat_h 11 ps.length (by omega) hl
    rw [show List.replicate ps.length (LV.int .i64 11) = (List.replicate ps.length 11).map intLV by simp [intLV]] at hrep
    refine ⟨[], _, _, _, _, hrep, rfl, ?_⟩
    ((repeat ((conv => whnf); first | refine brT ?_ | refine brF ?_)); conv => whnf)
    refine ⟨rfl, ?_⟩
    ((repeat ((conv => whnf); first | refine brT ?_ | refine brF ?_)); conv => whnf)
    refine ⟨rfl, rfl, ⟨rfl, flats_ints _, trivial⟩, ?_⟩
    ((repeat ((conv => whnf); first | refine brT ?_ | refine brF ?_)); conv => whnf)
    refine ⟨(upRow_len hk).symm, rfl, k, rfl, by rw [upRow_len hk]; exact hlt, ?_⟩
    ((repeat ((conv => whnf); first | refine brT ?_ | refine brF ?_)); conv => whnf)
    refine ⟨by simp, (upRow_len hk).symm, rfl, .nil, .nil, curRow ps k (List.replicate ps.length 11), upRow_at hlt, rfl, rfl, upRow_set hlt _, ?_⟩
    ((repeat ((conv => whnf); first | refine brT ?_ | refine brF ?_)); conv => whnf)
    refine ⟨_, knownParents_spec ps[k], ?_⟩
    ((repeat ((conv => whnf); first | refine brT ?_ | refine brF ?_)); conv => whnf)
    intro _
    ((repeat ((conv => whnf); first | refine brT ?_ | refine brF ?_)); conv => whnf)
    have hkn := kn_in hp hlt
    have hgood := fun i (hi : i < k) => (cl_good hp hs k hk i hi).1
    generalize hqs : known ps[k] = qs at hkn
    have hq2 : qs.length ≤ 2 := by rw [← hqs]; exact known_two _
    have hQ : (qs.map intLV).length = qs.length := List.length_map ..
    rw [hQ]
    refine loop_ruleR (α := Nat) [.old 0, .old 1, .old 2, .old 3, .old 4] (fun j => [(33, .int .i64 (j : Int))])
      (fun j => [.box (famLV ps us), .tree 27 1 (curRow ps k (clP (clTo ps k) ps.length qs j)), .box ps[k].lv, .arr 3 1 [.int .i64 11], .dead]) (fun j => qs.length - j) (fun j => j ≤ qs.length) 0 (Nat.zero_le _) ?_ ?_
    · refine ⟨?_, ⟨rfl, rfl, rfl, rfl, rfl, rfl, rfl, rfl, rfl, rfl, trivial⟩, rfl⟩
      ((repeat ((conv => whnf); refine ⟨rfl, rfl, ?_⟩)); trivial)
    intro j hj
    generalize hK2 : kk _ = KK2
    ((repeat ((conv => whnf); first | refine brT ?_ | refine brF ?_)); conv => whnf)
    (refine ⟨fun g2 => ?_, fun g2 => ?_⟩ <;> rw [g2])
    · have hlj : j < qs.length := by rw [ltI_t] at g2; omega
      have ej := step_i hlj (by unfold Go.maxLen; omega)
      obtain ⟨x0, x1⟩ := hkn qs[j] (List.getElem_mem hlj)
      have hcl := clP_len (up := clTo ps k) (n := ps.length) (qs := qs) (fun x hx => hgood _ (hkn x hx).2) j (by omega)
      have hg2 := hgood _ x1
      generalize hR : clP (clTo ps k) ps.length qs j = R at hcl
      generalize hPr : (clTo ps k).getD qs[j].toNat [] = Pr at hg2
      have hPrL : (Pr.map intLV).length = ps.length := by rw [List.length_map, hg2]
      ((repeat ((conv => whnf); first | refine brT ?_ | refine brF ?_)); conv => whnf)
      refine ⟨j, intLV qs[j], rfl, by simp [hlj], rfl, ?_⟩
      ((repeat ((conv => whnf); first | refine brT ?_ | refine brF ?_)); conv => whnf)
      refine ⟨(curRow_len hlt).symm, rfl, qs[j].toNat, by omega, by rw [curRow_len hlt]; omega, ?_⟩
      ((repeat ((conv => whnf); first | refine brT ?_ | refine brF ?_)); conv => whnf)
      refine ⟨(curRow_len hlt).symm, rowSl Pr, .sl (Pr.map intLV), by rw [curRow_lt x1, hPr], rfl, ?_⟩
      ((repeat ((conv => whnf); first | refine brT ?_ | refine brF ?_)); conv => whnf)
      refine ⟨rfl, rfl, ?_⟩
      ((repeat ((conv => whnf); first | refine brT ?_ | refine brF ?_)); conv => whnf)
      intro _
      ((repeat ((conv => whnf); first | refine brT ?_ | refine brF ?_)); conv => whnf)
      rw [hPrL]
      refine loop_ruleR (α := Nat) [.old 0, .old 1, .old 2, .old 3, .old 4] (fun q => [(42, .int .i64 (q : Int))])
        (fun q => [.box (famLV ps us), .tree 27 1 (curRow ps k (clQ R Pr q)), .box ps[k].lv, .arr 3 1 [.int .i64 11], .dead]) (fun q => ps.length - q) (fun q => q ≤ ps.length) 0 (Nat.zero_le _) ?_ ?_
      · refine ⟨?_, ⟨rfl, rfl, rfl, rfl, rfl, rfl, rfl, rfl, rfl, rfl, trivial⟩, rfl⟩
        ((repeat ((conv => whnf); refine ⟨rfl, rfl, ?_⟩)); trivial)
      intro q hq
      generalize hK3 : kk _ = KK3
      ((repeat ((conv => whnf); first | refine brT ?_ | refine brF ?_)); conv => whnf)
      (refine ⟨fun g3 => ?_, fun g3 => ?_⟩ <;> rw [g3])
      · have hlq : q < ps.length := by rw [ltI_t] at g3; omega
        have eq := step_i hlq hp'
        have hQl := clQ_len hcl hg2 (show q ≤ ps.length by omega)
        have hQg := clQ_at hcl hg2 hlq
        have hQs := clQ_set hcl hg2 hlq
        have hPb : 0 ≤ Pr.getD q 0 ∧ Pr.getD q 0 ≤ 11 := by rw [← hPr]; exact cl_bound hp hs hk x1 hlq
        ((repeat ((conv => whnf); first | refine brT ?_ | refine brF ?_)); conv => whnf)
        refine ⟨q, intLV (Pr.getD q 0), rfl, intL_at (by omega), rfl, ?_⟩
        ((repeat ((conv => whnf); first | refine brT ?_ | refine brF ?_)); conv => whnf)
        refine ⟨false, 15, by kernel_rfl, ?_⟩
        ((repeat ((conv => whnf); first | refine brT ?_ | refine brF ?_)); conv => whnf)
        refine ⟨(curRow_len hlt).symm, rfl, k, rfl, by rw [curRow_len hlt]; exact hlt, ?_⟩
        ((repeat ((conv => whnf); first | refine brT ?_ | refine brF ?_)); conv => whnf)
        refine ⟨(curRow_len hlt).symm, rowOw (clQ R Pr q), rowOw (clQ R Pr q), curRow_at _ _ _, rfl, ?_⟩
        ((repeat ((conv => whnf); first | refine brT ?_ | refine brF ?_)); conv => whnf)
        have hSL : ∀ v : LV, ((curRow ps k (clQ R Pr q)).set k v).length = ps.length := fun v => by rw [List.length_set, curRow_len hlt]
        refine ⟨(hSL _).symm, rfl, k, rfl, by rw [hSL]; exact hlt, ?_⟩
        ((repeat ((conv => whnf); first | refine brT ?_ | refine brF ?_)); conv => whnf)
        have hSA : ((curRow ps k (clQ R Pr q)).set k (.tup []))[k]? = some (.tup []) := List.getElem?_set_self (by rw [curRow_len hlt]; exact hlt)
        refine .inl ⟨rfl, (hSL .nil).symm, hSA, rfl, ?_⟩
        ((repeat ((conv => whnf); first | refine brT ?_ | refine brF ?_)); conv => whnf)
        have hgq : getP (.st ((clQ R Pr q).map intLV)) [q] = some (intLV ((clQ R Pr q).getD q 0)) := by simp only [getP]; rw [intL_at (g := clQ R Pr q) (i := q) (by rw [hQl]; exact hlq)]
        have hRl : ((clQ R Pr q).map intLV).length = ps.length := by rw [List.length_map, hQl]
        refine ⟨rfl, rfl, q, rfl, by rw [hRl]; exact hlq, ?_⟩
        ((repeat ((conv => whnf); first | refine brT ?_ | refine brF ?_)); conv => whnf)
        refine ⟨rfl, by simp, intLV ((clQ R Pr q).getD q 0), hgq, rfl, ?_⟩
        ((repeat ((conv => whnf); first | refine brT ?_ | refine brF ?_)); conv => whnf)
        refine ⟨rfl, rfl, q, rfl, by rw [hRl]; exact hlq, ?_⟩
        ((repeat ((conv => whnf); first | refine brT ?_ | refine brF ?_)); conv => whnf)
        refine ⟨rfl, q, [], intLV ((clQ R Pr q).getD q 0), rfl, hgq, rfl, rfl, rfl, (clQ R Pr (q + 1)).map intLV, ?_, ?_⟩
        · rw [intL_at (g := clQ R Pr q) (i := q) (by rw [hQl]; exact hlq), wrap64 (by omega) (by omega), ← hQs, hQg, List.map_set]; rfl
        ((repeat ((conv => whnf); first | refine brT ?_ | refine brF ?_)); conv => whnf)
        subst hK3
        refine round_endR [.old 0, .old 1, .old 2, .old 3, .old 4] (q + 1) hlq (by omega) ⟨?_, ⟨?_, ?_⟩, rfl⟩
        · ((repeat ((conv => whnf); first | refine ⟨rfl, eq, ?_⟩ | refine ⟨rfl, rfl, ?_⟩)); trivial)
        · rw [List.length_map, List.length_map, hQl, clQ_len hcl hg2 (show q + 1 ≤ ps.length by omega)]
        · have heq : (curRow ps k (clQ R Pr q)).set k (rowOw (clQ R Pr (q + 1))) = curRow ps k (clQ R Pr (q + 1)) := by rw [curRow_set]; rfl
          ((repeat ((conv => whnf); first | refine brT ?_ | refine brF ?_)); conv => whnf)
          exact ⟨rfl, rfl, rfl, congrArg (Blk.tree 27 1) heq, rfl, rfl, rfl, rfl, rfl, rfl, trivial⟩
      · have h4 : q = ps.length := by rw [ltI_f] at g3; omega
        subst h4
        subst hK3
        have hnx : clQ R Pr ps.length = clP (clTo ps k) ps.length qs (j + 1) := by rw [clQ_all hcl hg2, clP_succ hlj, hR, hPr]
        rw [hnx]
        ((repeat ((conv => whnf); first | refine brT ?_ | refine brF ?_)); conv => whnf)
        subst hK2
        refine round_endR [.old 0, .old 1, .old 2, .old 3, .old 4] (j + 1) hlj (by omega) ⟨?_, ⟨rfl, rfl, rfl, rfl, rfl, rfl, rfl, rfl, rfl, rfl, trivial⟩, rfl⟩
        ((repeat ((conv => whnf); first | refine ⟨rfl, ej, ?_⟩ | refine ⟨rfl, rfl, ?_⟩)); trivial)
    · have h4 : j = qs.length := by rw [ltI_f] at g2; omega
      subst h4
      subst hK2
      have hfin : clP (clTo ps k) ps.length qs qs.length = clRow0 (clTo ps k) ps.length k qs := by unfold clP clRow0; rw [List.take_of_length_le (Nat.le_refl _)]
      have hfl := clP_len (up := clTo ps k) (n := ps.length) (qs := qs) (fun x hx => hgood _ (hkn x hx).2) qs.length (Nat.le_refl _)
      rw [hfin] at hfl ⊢
      have hnx : (clRow0 (clTo ps k) ps.length k qs).set k 0 = (clRow0 (clTo ps k) ps.length k (known ps[k])).set k 0 := by rw [hqs]
      generalize clRow0 (clTo ps k) ps.length k qs = R at hfl hnx ⊢
      ((repeat ((conv => whnf); first | refine brT ?_ | refine brF ?_)); conv => whnf)
      refine ⟨(curRow_len hlt).symm, rfl, k, rfl, by rw [curRow_len hlt]; exact hlt, ?_⟩
      ((repeat ((conv => whnf); first | refine brT ?_ | refine brF ?_)); conv => whnf)
      refine ⟨(curRow_len hlt).symm, rowOw R, rowOw R, curRow_at _ _ _, rfl, ?_⟩
      ((repeat ((conv => whnf); first | refine brT ?_ | refine brF ?_)); conv => whnf)
      have hRl : (R.map intLV).length = ps.length := by rw [List.length_map, hfl]
      have hgq : getP (.st (R.map intLV)) [k] = some (intLV (R.getD k 0)) := by simp only [getP]; rw [intL_at (g := R) (i := k) (by rw [hfl]; exact hlt)]
      refine ⟨rfl, rfl, k, rfl, by rw [hRl]; exact hlt, ?_⟩
      ((repeat ((conv => whnf); first | refine brT ?_ | refine brF ?_)); conv => whnf)
      refine ⟨rfl, k, [], intLV (R.getD k 0), rfl, hgq, rfl, rfl, rfl, (R.set k 0).map intLV, ?_, ?_⟩
      · rw [intL_at (g := R) (i := k) (by rw [hfl]; exact hlt), List.map_set]; rfl
      ((repeat ((conv => whnf); first | refine brT ?_ | refine brF ?_)); conv => whnf)
      subst hK
      refine round_endF 1 k [.old 0, .old 1] (k + 1) hlt (by omega) ⟨?_, ⟨?_, ?_⟩, rfl⟩
      · ((repeat ((conv => whnf); first | refine ⟨rfl, e, ?_⟩ | refine ⟨rfl, rfl, ?_⟩)); trivial)
      · rw [List.length_map, List.length_map, List.length_set]
      · have hSA : ((curRow ps k R).set k (rowOw (R.set k 0)))[k]? = some (rowOw (R.set k 0)) := List.getElem?_set_self (by rw [curRow_len hlt]; exact hlt)
        have heq : ((curRow ps k R).set k (rowOw (R.set k 0))).set k (rowSl (R.set k 0)) = upRow ps (k + 1) := by rw [List.set_set, curRow_set]; exact curRow_fz hlt hnx
        ((repeat ((conv => whnf); first | refine brT ?_ | refine brF ?_)); conv => whnf)
        refine ⟨27, 1, _, rowOw (R.set k 0), rfl, hSA, ?_⟩
        ((repeat ((conv => whnf); first | refine brT ?_ | refine brF ?_)); conv => whnf)
        exact ⟨rfl, rfl, rfl, congrArg (Blk.tree 27 1) heq, trivial⟩
  · have h4 : k = ps.length := by rw [ltI_f] at g1; omega
    subst h4
    subst hK
    have hu : upRow ps ps.length = (clT ps).map rowSl := by simp [upRow, clT]
    have hl2 : ((clT ps).map rowSl).length = ps.length := by rw [List.length_map]; exact clTo_len ps _
    rw [hu, hl2]
    ((repeat ((conv => whnf); first | refine brT ?_ | refine brF ?_)); conv => whnf)
    exact ⟨[.hs 0 ps.length], rfl, rfl, .inr ⟨[.old 1], ⟨rfl, rfl, trivial⟩, ⟨rfl, rfl, trivial⟩, rfl⟩⟩
theorem dms_rowSl (T : List (List Int)) : dms (T.map rowSl) = T.map rowSl := by
  rw [dms_map, List.map_map]; rfl
theorem climbs_f (ps : List Per) (us : List Uni) (hl : ps.length ≤ 40) (hp : parsIn ps) (hs : shallow (depths ps) = true) :
    FSpec env.P 96 [famLV ps us] (.own 27 1 ((clT ps).map rowSl)) := by
  have hl2 : ((clT ps).map rowSl).length = ps.length := by rw [List.length_map]; exact clTo_len ps _
  refine FSpec_of_tree (climbs_h ps us hl hp hs) ?_
  rw [dms_rowSl, hl2]
  rw [← hl2]
  simp [exW]
end Go.Proofs.Ytplkockghigpdaa


namespace Go.Proofs.Ytplkockghigpdaa
open Go.Lg Go.Pm
set_option maxHeartbeats 3200000
set_option maxRecDepth 10000
set_option linter.unusedVariables false
set_option linter.unusedSimpArgs false

/-! ### Founders -/
end Go.Proofs.Ytplkockghigpdaa

namespace Go.Proofs.Ytplkockghigpdaa
open Go.Lg Go.Pm
set_option maxHeartbeats 3200000
set_option maxRecDepth 10000
set_option linter.unusedVariables false
set_option linter.unusedSimpArgs false

theorem hasP_in {ps : List Per} {us : List Uni} {p : Int} (h : hasP ps us p = true) : 0 ≤ p ∧ p.toNat < ps.length ∧ ps.length ≤ 40 ∧ parsIn ps := by
  obtain ⟨h0, h1, h2⟩ := hasP_lt h
  obtain ⟨k1, _, k2, _⟩ := famOk_parts h2
  exact ⟨h0, h1, k1, parsIn_of k2⟩
end Go.Proofs.Ytplkockghigpdaa

namespace Go.Proofs.Ytplkockghigpdaa
open Go.Lg Go.Pm
set_option maxHeartbeats 3200000
set_option maxRecDepth 10000
set_option linter.unusedVariables false
set_option linter.unusedSimpArgs false

/-! ### Exogamy -/
end Go.Proofs.Ytplkockghigpdaa

namespace Go.Proofs.Ytplkockghigpdaa
open Go.Lg Go.Pm
set_option maxHeartbeats 3200000
set_option maxRecDepth 10000
set_option linter.unusedVariables false
set_option linter.unusedSimpArgs false

/-! ### The eldest first -/
end Go.Proofs.Ytplkockghigpdaa


namespace Go.Proofs.Ytplkockghigpdaa
open Go.Shelf
set_option maxRecDepth 10000
set_option linter.unusedVariables false

end Go.Proofs.Ytplkockghigpdaa


namespace Go.Proofs.Ytplkockghigpdaa
open Go.Lg
set_option maxHeartbeats 1600000
set_option maxRecDepth 10000
set_option linter.unusedVariables false
set_option linter.unusedSimpArgs false

end Go.Proofs.Ytplkockghigpdaa

namespace Go.Proofs.Ytplkockghigpdaa
open Go.Lg
set_option maxHeartbeats 1600000
set_option maxRecDepth 10000
set_option linter.unusedVariables false
set_option linter.unusedSimpArgs false

end Go.Proofs.Ytplkockghigpdaa

namespace Go.Proofs.Ytplkockghigpdaa
open Go.Lg
set_option maxHeartbeats 1600000
set_option maxRecDepth 10000
set_option linter.unusedVariables false
set_option linter.unusedSimpArgs false

/-! A table that is filled row by row. -/
/-! ### Steps in a family, as the model has them -/
end Go.Proofs.Ytplkockghigpdaa


namespace Go.Proofs.Ytplkockghigpdaa
open Go.Lg
set_option maxHeartbeats 6400000
set_option maxRecDepth 10000
set_option linter.unusedVariables false
set_option linter.unusedSimpArgs false

end Go.Proofs.Ytplkockghigpdaa

namespace Go.Proofs.Ytplkockghigpdaa
open Go.Lg
set_option maxHeartbeats 6400000
set_option maxRecDepth 10000
set_option linter.unusedVariables false
set_option linter.unusedSimpArgs false

end Go.Proofs.Ytplkockghigpdaa

namespace Go.Proofs.Ytplkockghigpdaa
open Go.Lg
set_option maxHeartbeats 6400000
set_option maxRecDepth 10000
set_option linter.unusedVariables false
set_option linter.unusedSimpArgs false

end Go.Proofs.Ytplkockghigpdaa

namespace Go.Proofs.Ytplkockghigpdaa
open Go.Lg
set_option maxHeartbeats 6400000
set_option maxRecDepth 10000
set_option linter.unusedVariables false
set_option linter.unusedSimpArgs false

end Go.Proofs.Ytplkockghigpdaa

namespace Go.Proofs.Ytplkockghigpdaa
open Go.Lg
set_option maxHeartbeats 6400000
set_option maxRecDepth 10000
set_option linter.unusedVariables false
set_option linter.unusedSimpArgs false

end Go.Proofs.Ytplkockghigpdaa

namespace Go.Proofs.Ytplkockghigpdaa
open Go.Lg
set_option maxHeartbeats 6400000
set_option maxRecDepth 10000
set_option linter.unusedVariables false
set_option linter.unusedSimpArgs false

end Go.Proofs.Ytplkockghigpdaa

namespace Go.Proofs.Ytplkockghigpdaa
open Go.Lg
set_option maxHeartbeats 3200000
set_option maxRecDepth 10000
set_option linter.unusedVariables false
set_option linter.unusedSimpArgs false

end Go.Proofs.Ytplkockghigpdaa

namespace Go.Proofs.Ytplkockghigpdaa
open Go.Lg
set_option maxHeartbeats 3200000
set_option maxRecDepth 10000
set_option linter.unusedVariables false
set_option linter.unusedSimpArgs false

/-! ### Steps in a family, as the program has them -/
end Go.Proofs.Ytplkockghigpdaa

namespace Go.Proofs.Ytplkockghigpdaa
open Go.Lg
set_option maxHeartbeats 3200000
set_option maxRecDepth 10000
set_option linter.unusedVariables false
set_option linter.unusedSimpArgs false

end Go.Proofs.Ytplkockghigpdaa

namespace Go.Proofs.Ytplkockghigpdaa
open Go.Lg
set_option maxHeartbeats 6400000
set_option maxRecDepth 10000
set_option linter.unusedVariables false
set_option linter.unusedSimpArgs false

end Go.Proofs.Ytplkockghigpdaa

namespace Go.Proofs.Ytplkockghigpdaa
open Go.Lg
set_option maxHeartbeats 6400000
set_option maxRecDepth 10000
set_option linter.unusedVariables false
set_option linter.unusedSimpArgs false

end Go.Proofs.Ytplkockghigpdaa

namespace Go.Proofs.Ytplkockghigpdaa
open Go.Lg
set_option maxHeartbeats 6400000
set_option maxRecDepth 10000
set_option linter.unusedVariables false
set_option linter.unusedSimpArgs false

end Go.Proofs.Ytplkockghigpdaa

namespace Go.Proofs.Ytplkockghigpdaa
open Go.Lg
set_option maxHeartbeats 6400000
set_option maxRecDepth 10000
set_option linter.unusedVariables false
set_option linter.unusedSimpArgs false

end Go.Proofs.Ytplkockghigpdaa

namespace Go.Proofs.Ytplkockghigpdaa
open Go.Lg
set_option maxHeartbeats 6400000
set_option maxRecDepth 10000
set_option linter.unusedVariables false
set_option linter.unusedSimpArgs false

end Go.Proofs.Ytplkockghigpdaa

namespace Go.Proofs.Ytplkockghigpdaa
open Go.Lg
set_option maxHeartbeats 3200000
set_option maxRecDepth 10000
set_option linter.unusedVariables false
set_option linter.unusedSimpArgs false

/-! ### In a valid family both ways of following a step are one -/
section
variable {ps : List Per} {us : List Uni} {s : Pr} (h : famOk ps us = true)
include h
end

end Go.Proofs.Ytplkockghigpdaa

namespace Go.Proofs.Ytplkockghigpdaa
open Go.Lg Go.Pm
set_option maxHeartbeats 3200000
set_option maxRecDepth 10000
set_option linter.unusedVariables false
set_option linter.unusedSimpArgs false

/-! ### Children and siblings -/
end Go.Proofs.Ytplkockghigpdaa


namespace Go.Proofs.Ytplkockghigpdaa
open Go.Lg
set_option maxHeartbeats 6400000
set_option maxRecDepth 10000
set_option linter.unusedVariables false
set_option linter.unusedSimpArgs false

end Go.Proofs.Ytplkockghigpdaa

namespace Go.Proofs.Ytplkockghigpdaa
open Go.Lg
set_option maxHeartbeats 1600000
set_option maxRecDepth 10000
set_option linter.unusedVariables false
set_option linter.unusedSimpArgs false

/-! ### Rows of texts -/
end Go.Proofs.Ytplkockghigpdaa

namespace Go.Proofs.Ytplkockghigpdaa
open Go.Lg
set_option maxHeartbeats 3200000
set_option maxRecDepth 10000
set_option linter.unusedVariables false
set_option linter.unusedSimpArgs false

end Go.Proofs.Ytplkockghigpdaa

namespace Go.Proofs.Ytplkockghigpdaa
open Go.Lg
set_option maxHeartbeats 3200000
set_option maxRecDepth 10000
set_option linter.unusedVariables false
set_option linter.unusedSimpArgs false

end Go.Proofs.Ytplkockghigpdaa

namespace Go.Proofs.Ytplkockghigpdaa
open Go.Lg
set_option maxHeartbeats 3200000
set_option maxRecDepth 10000
set_option linter.unusedVariables false
set_option linter.unusedSimpArgs false

end Go.Proofs.Ytplkockghigpdaa

namespace Go.Proofs.Ytplkockghigpdaa
open Go.Lg
set_option maxHeartbeats 3200000
set_option maxRecDepth 10000
set_option linter.unusedVariables false
set_option linter.unusedSimpArgs false

end Go.Proofs.Ytplkockghigpdaa

namespace Go.Proofs.Ytplkockghigpdaa
open Go.Lg
set_option maxHeartbeats 6400000
set_option maxRecDepth 10000
set_option linter.unusedVariables false
set_option linter.unusedSimpArgs false

end Go.Proofs.Ytplkockghigpdaa

namespace Go.Proofs.Ytplkockghigpdaa
open Go.Lg Go.Pm
set_option maxHeartbeats 3200000
set_option maxRecDepth 10000
set_option linter.unusedVariables false
set_option linter.unusedSimpArgs false

end Go.Proofs.Ytplkockghigpdaa


namespace Go.Proofs.Ytplkockghigpdaa
open Go.Lg Go.Pm
set_option maxHeartbeats 3200000
set_option maxRecDepth 10000
set_option linter.unusedVariables false
set_option linter.unusedSimpArgs false

theorem known_nn {ps : List Per} (hp : parsIn ps) {x : Nat} (h : x < ps.length) : known ps[x] = (match leI 0 ps[x].father with | true => [ps[x].father] | false => []) ++ (match leI 0 ps[x].mother with | true => [ps[x].mother] | false => []) := by
  have := hp x h
  have nn : ∀ v : Int, parIn v x → notNone v = leI 0 v := fun v hv => by
    unfold notNone
    rcases hv with rfl | ⟨h0, h1⟩
    · simp [notB, eqI, leI]
    · have e1 : eqI v (-1) = false := eqI_f.2 (by omega)
      rw [e1, leI_t.2 h0]; simp [notB]
  unfold known
  rw [← nn _ this.1, ← nn _ this.2]
  cases h1 : notNone ps[x].father <;> cases h2 : notNone ps[x].mother <;> simp [List.filter, h1, h2]
theorem l1Parents_f (ps : List Per) (us : List Uni) (hp : parsIn ps) (x : Nat) (hx : x < ps.length) : FSpec env.P 121 [famLV ps us, .int .i64 (x : Int)] (rowOw (known ps[x])) := by
  refine FSpec_of_code env_ok (fn := Try.f121) Try.func121 rfl Try.call121 _ _ ?_
  have hg : (ps.map Per.lv)[x]? = some ps[x].lv := by simp [hx]
  rw [known_nn hp hx]
  ((repeat ((conv => whnf); first | refine brT ?_ | refine brF ?_)); conv => whnf)
  refine ⟨x, _, rfl, hg, rfl, ?_⟩
  ((repeat ((conv => whnf); first | refine brT ?_ | refine brF ?_)); conv => whnf)
  (refine ⟨fun g1 => ?_, fun g1 => ?_⟩ <;> rw [g1])
  · ((repeat ((conv => whnf); first | refine brT ?_ | refine brF ?_)); conv => whnf)
    refine ⟨x, _, rfl, hg, rfl, ?_⟩
    ((repeat ((conv => whnf); first | refine brT ?_ | refine brF ?_)); conv => whnf)
    refine ⟨rfl, rfl, by show 1 ≤ Go.maxLen; unfold Go.maxLen; omega, by show 1 * 8 ≤ _; omega, ?_⟩
    ((repeat ((conv => whnf); first | refine brT ?_ | refine brF ?_)); conv => whnf)
    refine ⟨x, _, rfl, hg, rfl, ?_⟩
    ((repeat ((conv => whnf); first | refine brT ?_ | refine brF ?_)); conv => whnf)
    (refine ⟨fun g2 => ?_, fun g2 => ?_⟩ <;> rw [g2])
    · ((repeat ((conv => whnf); first | refine brT ?_ | refine brF ?_)); conv => whnf)
      refine ⟨x, _, rfl, hg, rfl, ?_⟩
      ((repeat ((conv => whnf); first | refine brT ?_ | refine brF ?_)); conv => whnf)
      refine ⟨rfl, rfl, by show 2 ≤ Go.maxLen; unfold Go.maxLen; omega, by show 2 * 8 ≤ _; omega, ?_⟩
      ((repeat ((conv => whnf); first | refine brT ?_ | refine brF ?_)); conv => whnf)
      exact ⟨rfl, rfl, rfl, rfl, by simp⟩
    · ((repeat ((conv => whnf); first | refine brT ?_ | refine brF ?_)); conv => whnf)
      exact ⟨rfl, rfl, rfl, rfl, by simp⟩
  · ((repeat ((conv => whnf); first | refine brT ?_ | refine brF ?_)); conv => whnf)
    refine ⟨x, _, rfl, hg, rfl, ?_⟩
    ((repeat ((conv => whnf); first | refine brT ?_ | refine brF ?_)); conv => whnf)
    (refine ⟨fun g2 => ?_, fun g2 => ?_⟩ <;> rw [g2])
    · ((repeat ((conv => whnf); first | refine brT ?_ | refine brF ?_)); conv => whnf)
      refine ⟨x, _, rfl, hg, rfl, ?_⟩
      ((repeat ((conv => whnf); first | refine brT ?_ | refine brF ?_)); conv => whnf)
      refine ⟨rfl, rfl, by show 1 ≤ Go.maxLen; unfold Go.maxLen; omega, by show 1 * 8 ≤ _; omega, ?_⟩
      ((repeat ((conv => whnf); first | refine brT ?_ | refine brF ?_)); conv => whnf)
      exact ⟨rfl, rfl, rfl, rfl, by simp⟩
    · ((repeat ((conv => whnf); first | refine brT ?_ | refine brF ?_)); conv => whnf)
      exact ⟨rfl, rfl, rfl, rfl, by simp⟩
/-- So many times what is not. -/
def noRow (k : Nat) : List LV := (List.replicate k (-1 : Int)).map intLV
theorem noRow_succ (k : Nat) : noRow k ++ [LV.int .i64 (-1)] = noRow (k + 1) := by
  unfold noRow; rw [List.replicate_succ', List.map_append]; rfl
theorem noRow_len (k : Nat) : (noRow k).length = k := by simp [noRow]
theorem rlxs_take {o : List Int} {d : Int} {qs : List Int} {i : Nat} (h : i < qs.length) : rlxs o d (qs.take (i + 1)) = rlx (rlxs o d (qs.take i)) d qs[i] := by
  unfold rlxs; rw [List.take_succ_eq_append_getElem h, List.foldl_append]; rfl
theorem up_f (ps : List Per) (us : List Uni) (hl : ps.length ≤ 40) (hp : parsIn ps) (hs : shallow (depths ps) = true) (p : Nat) (h : p < ps.length) : FSpec env.P 95 [famLV ps us, .int .i64 (p : Int)] (rowOw (upS ps p)) := by
  refine FSpec_of_code env_ok (fn := Try.f95) Try.func95 rfl Try.call95 _ _ ?_
  have hP : (ps.map Per.lv).length = ps.length := List.length_map ..
  have hp' : ps.length ≤ Go.maxLen := by unfold Go.maxLen; omega
  ((repeat ((conv => whnf); first | refine brT ?_ | refine brF ?_)); conv => whnf)
  intro _
  ((repeat ((conv => whnf); first | refine brT ?_ | refine brF ?_)); conv => whnf)
  rw [hP]
  refine loop_ruleR (α := Nat) [.old 0, .old 1] (fun k => [(9, .undef), (13, .int .i64 (k : Int)), (5, .hs 1 (noRow k).length)]) (fun k => [.box (famLV ps us), .arr 3 1 (noRow k)]) (fun k => ps.length - k) (fun k => k ≤ ps.length) 0 (Nat.zero_le _) ?_ ?_
  · refine ⟨?_, ⟨rfl, rfl, rfl, rfl, trivial⟩, rfl⟩
    ((repeat ((conv => whnf); refine ⟨rfl, rfl, ?_⟩)); trivial)
  intro k hk
  generalize hK : kk _ = KK
  ((repeat ((conv => whnf); first | refine brT ?_ | refine brF ?_)); conv => whnf)
  (refine ⟨fun g1 => ?_, fun g1 => ?_⟩ <;> rw [g1])
  · have hlt : k < ps.length := by rw [ltI_t] at g1; omega
    have e := step_i hlt hp'
    have hn := noRow_succ k
    have hn2 := noRow_len (k + 1)
    ((repeat ((conv => whnf); first | refine brT ?_ | refine brF ?_)); conv => whnf)
    refine ⟨rfl, rfl, ?_, ?_, ?_⟩
    · rw [hn]; unfold Go.maxLen; omega
    · rw [hn]; show (noRow (k + 1)).length * 8 ≤ _; omega
    rw [hn]
    ((repeat ((conv => whnf); first | refine brT ?_ | refine brF ?_)); conv => whnf)
    subst hK
    refine round_endR [.old 0, .old 3] (k + 1) hlt (by omega) ⟨?_, ⟨rfl, rfl, rfl, rfl, trivial⟩, rfl⟩
    ((repeat ((conv => whnf); first | refine ⟨rfl, e, ?_⟩ | refine ⟨rfl, rfl, ?_⟩)); trivial)
  have h4 : k = ps.length := by rw [ltI_f] at g1; omega
  subst h4
  subst hK
  have hset : (noRow ps.length).set p (LV.int .i64 0) = (upTo ps p 0).map intLV := by
    show ((List.replicate ps.length (-1 : Int)).map intLV).set p (intLV 0) = ((List.replicate ps.length (-1 : Int)).set p 0).map intLV
    rw [List.map_set]
  have hgp : getP (.st (noRow ps.length)) [p] = some (intLV (-1)) := by
    simp only [getP]; unfold noRow; rw [List.getElem?_map, List.getElem?_replicate, if_pos h]; rfl
  have hgn : (noRow ps.length)[p]? = some (intLV (-1)) := by
    unfold noRow; rw [List.getElem?_map, List.getElem?_replicate, if_pos h]; rfl
  have hnl := noRow_len ps.length
  have hul : ∀ j, ((upTo ps p j).map intLV).length = ps.length := fun j => by rw [List.length_map, upTo_len]
  rw [hnl]
  ((repeat ((conv => whnf); first | refine brT ?_ | refine brF ?_)); conv => whnf)
  refine ⟨hnl.symm, rfl, p, rfl, by rw [hnl]; exact h, ?_⟩
  ((repeat ((conv => whnf); first | refine brT ?_ | refine brF ?_)); conv => whnf)
  refine ⟨hnl.symm, p, [], intLV (-1), rfl, hgp, rfl, rfl, rfl, (upTo ps p 0).map intLV, by rw [hgn]; exact hset, ?_⟩
  ((repeat ((conv => whnf); first | refine brT ?_ | refine brF ?_)); conv => whnf)
  refine ⟨(hul 0).symm, fun _ => ?_⟩
  ((repeat ((conv => whnf); first | refine brT ?_ | refine brF ?_)); conv => whnf)
  rw [hul 0, wrap64 (by omega) (by omega)]
  refine loop_rule (α := Nat) (fun j => [(6, .int .i64 ((ps.length : Int) - 1 - (j : Int)))]) (fun j => [.box (famLV ps us), .arr 3 1 ((upTo ps p j).map intLV)]) (fun j => ps.length - j) (fun j => j ≤ ps.length) 0 (Nat.zero_le _) ?_ ?_
  · refine ⟨?_, ⟨rfl, rfl, trivial⟩, rfl, rfl⟩
    have e0 : LV.int .i64 ((ps.length : Int) - 1) = LV.int .i64 ((ps.length : Int) - 1 - ((0 : Nat) : Int)) := by simp
    ((repeat ((conv => whnf); first | refine ⟨e0, ?_⟩ | refine ⟨rfl, ?_⟩)); trivial)
  intro j hj
  generalize hK : kk _ = KK
  ((repeat ((conv => whnf); first | refine brT ?_ | refine brF ?_)); conv => whnf)
  (refine ⟨fun g1 => ?_, fun g1 => ?_⟩ <;> rw [g1])
  · have hlt : j < ps.length := by rw [leI_t] at g1; omega
    obtain ⟨x, hx⟩ : ∃ x, x = ps.length - 1 - j := ⟨_, rfl⟩
    have hxl : x < ps.length := by omega
    have ex : (ps.length : Int) - 1 - (j : Int) = (x : Int) := by omega
    have hR : upTo ps p (j + 1) = relax ps (upTo ps p j) x := by rw [upTo, hx]
    have inv := upTo_inv hp h j (by omega)
    rw [show ps.length - j = x + 1 by omega] at inv
    have e := step_i hlt hp'
    have eb : LV.int .i64 (IntKind.i64.wrap ((x : Int) - 1)) = LV.int .i64 ((ps.length : Int) - 1 - ((j + 1 : Nat) : Int)) := by rw [wrap64 (by omega) (by omega)]; congr 1; omega
    rw [ex]
    generalize upTo ps p j = o at inv hR ⊢
    have hol : (o.map intLV).length = ps.length := by rw [List.length_map, inv.len]
    have hox := intL_at (g := o) (i := x) (by rw [inv.len]; exact hxl)
    have hog : getP (.st (o.map intLV)) [x] = some (intLV (o.getD x 0)) := by simp only [getP]; rw [hox]
    ((repeat ((conv => whnf); first | refine brT ?_ | refine brF ?_)); conv => whnf)
    refine ⟨hol.symm, rfl, x, rfl, by rw [hol]; exact hxl, ?_⟩
    ((repeat ((conv => whnf); first | refine brT ?_ | refine brF ?_)); conv => whnf)
    refine ⟨hol.symm, by simp, intLV (o.getD x 0), hog, rfl, ?_⟩
    ((repeat ((conv => whnf); first | refine brT ?_ | refine brF ?_)); conv => whnf)
    (refine ⟨fun g2 => ?_, fun g2 => ?_⟩ <;> rw [g2])
    · have hsame : o = upTo ps p (j + 1) := by rw [hR]; unfold relax; rw [g2]
      ((repeat ((conv => whnf); first | refine brT ?_ | refine brF ?_)); conv => whnf)
      subst hK
      refine round_end (j + 1) hlt (by omega) ⟨?_, ⟨rfl, congrArg (fun o : List Int => Blk.arr 3 1 (o.map intLV)) hsame, trivial⟩, rfl, rfl⟩
      ((repeat ((conv => whnf); first | refine ⟨eb, ?_⟩ | refine ⟨rfl, ?_⟩)); trivial)
    · ((repeat ((conv => whnf); first | refine brT ?_ | refine brF ?_)); conv => whnf)
      refine ⟨_, l1Parents_f ps us hp x hxl, ?_⟩
      ((repeat ((conv => whnf); first | refine brT ?_ | refine brF ?_)); conv => whnf)
      intro _
      ((repeat ((conv => whnf); first | refine brT ?_ | refine brF ?_)); conv => whnf)
      rw [ltI_f] at g2
      have hkn := kn_in hp hxl
      have hd10 : o.getD x 0 ≤ 10 := by
        rcases inv.real x hxl with e1 | ⟨_, hu⟩
        · omega
        · have := hu.small hp hs; omega
      have hR2 : upTo ps p (j + 1) = rlxs o (o.getD x 0 + 1) (known ps[x]) := by rw [hR]; unfold relax; rw [ltI_f.2 g2, List.getElem?_eq_getElem hxl]
      have hst : ∀ i, (rlxs o (o.getD x 0 + 1) ((known ps[x]).take i)).getD x 0 = o.getD x 0 := fun i => by
        have g := (rlxs_get (n := ps.length) (d := o.getD x 0 + 1) (by omega) ((known ps[x]).take i) o inv.len (fun v hv => ⟨(hkn v (List.mem_of_mem_take hv)).1, by have := (hkn v (List.mem_of_mem_take hv)).2; omega⟩) x).1
        rcases g with g | ⟨g, _⟩
        · exact g
        · have := (hkn _ (List.mem_of_mem_take g)).2; omega
      generalize hqs : known ps[x] = qs at hkn hR2 hst
      have hq2 : qs.length ≤ 2 := by rw [← hqs]; exact known_two _
      have hQ : (qs.map intLV).length = qs.length := List.length_map ..
      rw [hQ]
      refine loop_rule (α := Nat) (fun i => [(38, .int .i64 (i : Int))]) (fun i => [.box (famLV ps us), .arr 3 1 ((rlxs o (o.getD x 0 + 1) (qs.take i)).map intLV)]) (fun i => qs.length - i) (fun i => i ≤ qs.length) 0 (Nat.zero_le _) ?_ ?_
      · refine ⟨?_, ⟨rfl, rfl, trivial⟩, rfl, rfl⟩
        ((repeat ((conv => whnf); refine ⟨rfl, ?_⟩)); trivial)
      intro i hi
      have hsti := hst i
      have hlen : (rlxs o (o.getD x 0 + 1) (qs.take i)).length = ps.length := by rw [rlxs_len, inv.len]
      have hnx : ∀ hi : i < qs.length, rlxs o (o.getD x 0 + 1) (qs.take (i + 1)) = rlx (rlxs o (o.getD x 0 + 1) (qs.take i)) (o.getD x 0 + 1) qs[i] := fun hi => rlxs_take hi
      have hal : i = qs.length → rlxs o (o.getD x 0 + 1) (qs.take i) = rlxs o (o.getD x 0 + 1) qs := fun hi => by rw [List.take_of_length_le (by omega)]
      generalize rlxs o (o.getD x 0 + 1) (qs.take i) = r at hsti hlen hnx hal ⊢
      have hrl : (r.map intLV).length = ps.length := by rw [List.length_map, hlen]
      have hlo : ps.length = (r.map intLV).length := hrl.symm
      have hrx := intL_at (g := r) (i := x) (by rw [hlen]; exact hxl)
      rw [hsti] at hrx
      have hrg : getP (.st (r.map intLV)) [x] = some (intLV (o.getD x 0)) := by simp only [getP]; rw [hrx]
      generalize hK2 : kk _ = KK2
      ((repeat ((conv => whnf); first | refine brT ?_ | refine brF ?_)); conv => whnf)
      (refine ⟨fun g3 => ?_, fun g3 => ?_⟩ <;> rw [g3])
      · have hli : i < qs.length := by rw [ltI_t] at g3; omega
        have ei := step_i hli (by unfold Go.maxLen; omega)
        have hn := hnx hli
        obtain ⟨q0, q1⟩ := hkn qs[i] (List.getElem_mem hli)
        obtain ⟨q, hq⟩ : ∃ q : Nat, qs[i] = (q : Int) := ⟨qs[i].toNat, by omega⟩
        rw [hq] at hn q1
        rw [Int.toNat_natCast] at q1
        have hrq := intL_at (g := r) (i := q) (by rw [hlen]; omega)
        have hrh : getP (.st (r.map intLV)) [q] = some (intLV (r.getD q 0)) := by simp only [getP]; rw [hrq]
        ((repeat ((conv => whnf); first | refine brT ?_ | refine brF ?_)); conv => whnf)
        refine ⟨i, intLV (q : Int), rfl, by rw [List.getElem?_map, List.getElem?_eq_getElem hli, hq]; rfl, rfl, ?_⟩
        ((repeat ((conv => whnf); first | refine brT ?_ | refine brF ?_)); conv => whnf)
        refine ⟨true, by kernel_rfl, ?_⟩
        ((repeat ((conv => whnf); first | refine brT ?_ | refine brF ?_)); conv => whnf)
        refine ⟨hlo, rfl, q, rfl, by rw [hrl]; omega, ?_⟩
        ((repeat ((conv => whnf); first | refine brT ?_ | refine brF ?_)); conv => whnf)
        refine ⟨hlo, by simp, intLV (r.getD q 0), hrh, rfl, ?_⟩
        ((repeat ((conv => whnf); first | refine brT ?_ | refine brF ?_)); conv => whnf)
        have wr1 : IntKind.i64.wrap (o.getD x 0 + 1) = o.getD x 0 + 1 := wrap64 (by omega) (by omega)
        have hset : (ltI (r.getD q 0) 0 || ltI (o.getD x 0 + 1) (r.getD q 0)) = true → (rlx r (o.getD x 0 + 1) (q : Int)).map intLV = (r.map intLV).set q (intLV (o.getD x 0 + 1)) := fun hc => by
          unfold rlx; rw [Int.toNat_natCast, hc, List.map_set]
        have hkeep : (ltI (r.getD q 0) 0 || ltI (o.getD x 0 + 1) (r.getD q 0)) = false → rlx r (o.getD x 0 + 1) (q : Int) = r := fun hc => by
          unfold rlx; rw [Int.toNat_natCast, hc]
        (refine ⟨fun g4 => ?_, fun g4 => ?_⟩ <;> rw [g4])
        · ((repeat ((conv => whnf); first | refine brT ?_ | refine brF ?_)); conv => whnf)
          refine ⟨hlo, rfl, x, rfl, by rw [hrl]; exact hxl, ?_⟩
          ((repeat ((conv => whnf); first | refine brT ?_ | refine brF ?_)); conv => whnf)
          refine ⟨hlo, by simp, intLV (o.getD x 0), hrg, rfl, ?_⟩
          ((repeat ((conv => whnf); first | refine brT ?_ | refine brF ?_)); conv => whnf)
          refine ⟨hlo, rfl, q, rfl, by rw [hrl]; omega, ?_⟩
          ((repeat ((conv => whnf); first | refine brT ?_ | refine brF ?_)); conv => whnf)
          refine ⟨hlo, q, [], intLV (r.getD q 0), rfl, hrh, rfl, rfl, rfl, (rlxs o (o.getD x 0 + 1) (qs.take (i + 1))).map intLV, by rw [hrq]; show (r.map intLV).set q (.int .i64 (IntKind.i64.wrap (o.getD x 0 + 1))) = _; rw [wr1, hn, hset (by rw [g4]; rfl)]; rfl, ?_⟩
          ((repeat ((conv => whnf); first | refine brT ?_ | refine brF ?_)); conv => whnf)
          subst hK2
          refine round_end (i + 1) hli (by omega) ⟨?_, ⟨rfl, rfl, trivial⟩, rfl, rfl⟩
          ((repeat ((conv => whnf); first | refine ⟨ei, ?_⟩ | refine ⟨rfl, ?_⟩)); trivial)
        · ((repeat ((conv => whnf); first | refine brT ?_ | refine brF ?_)); conv => whnf)
          refine ⟨hlo, rfl, q, rfl, by rw [hrl]; omega, ?_⟩
          ((repeat ((conv => whnf); first | refine brT ?_ | refine brF ?_)); conv => whnf)
          refine ⟨hlo, by simp, intLV (r.getD q 0), hrh, rfl, ?_⟩
          ((repeat ((conv => whnf); first | refine brT ?_ | refine brF ?_)); conv => whnf)
          refine ⟨hlo, rfl, x, rfl, by rw [hrl]; exact hxl, ?_⟩
          ((repeat ((conv => whnf); first | refine brT ?_ | refine brF ?_)); conv => whnf)
          refine ⟨hlo, by simp, intLV (o.getD x 0), hrg, rfl, ?_⟩
          ((repeat ((conv => whnf); first | refine brT ?_ | refine brF ?_)); conv => whnf)
          rw [wr1]
          (refine ⟨fun g5 => ?_, fun g5 => ?_⟩ <;> rw [g5])
          · ((repeat ((conv => whnf); first | refine brT ?_ | refine brF ?_)); conv => whnf)
            refine ⟨hlo, rfl, x, rfl, by rw [hrl]; exact hxl, ?_⟩
            ((repeat ((conv => whnf); first | refine brT ?_ | refine brF ?_)); conv => whnf)
            refine ⟨hlo, by simp, intLV (o.getD x 0), hrg, rfl, ?_⟩
            ((repeat ((conv => whnf); first | refine brT ?_ | refine brF ?_)); conv => whnf)
            refine ⟨hlo, rfl, q, rfl, by rw [hrl]; omega, ?_⟩
            ((repeat ((conv => whnf); first | refine brT ?_ | refine brF ?_)); conv => whnf)
            refine ⟨hlo, q, [], intLV (r.getD q 0), rfl, hrh, rfl, rfl, rfl, (rlxs o (o.getD x 0 + 1) (qs.take (i + 1))).map intLV, by rw [hrq]; show (r.map intLV).set q (.int .i64 (IntKind.i64.wrap (o.getD x 0 + 1))) = _; rw [wr1, hn, hset (by rw [g4, g5]; rfl)]; rfl, ?_⟩
            ((repeat ((conv => whnf); first | refine brT ?_ | refine brF ?_)); conv => whnf)
            subst hK2
            refine round_end (i + 1) hli (by omega) ⟨?_, ⟨rfl, rfl, trivial⟩, rfl, rfl⟩
            ((repeat ((conv => whnf); first | refine ⟨ei, ?_⟩ | refine ⟨rfl, ?_⟩)); trivial)
          · have hk0 := hkeep (by rw [g4, g5]; rfl)
            rw [← hn] at hk0
            ((repeat ((conv => whnf); first | refine brT ?_ | refine brF ?_)); conv => whnf)
            subst hK2
            refine round_end (i + 1) hli (by omega) ⟨?_, ⟨rfl, congrArg (fun o : List Int => Blk.arr 3 1 (o.map intLV)) hk0.symm, trivial⟩, rfl, rfl⟩
            ((repeat ((conv => whnf); first | refine ⟨ei, ?_⟩ | refine ⟨rfl, ?_⟩)); trivial)
      · have h5 : i = qs.length := by rw [ltI_f] at g3; omega
        have ha := hal h5
        rw [← hR2] at ha
        subst hK2
        ((repeat ((conv => whnf); first | refine brT ?_ | refine brF ?_)); conv => whnf)
        subst hK
        refine round_end (j + 1) hlt (by omega) ⟨?_, ⟨rfl, congrArg (fun o : List Int => Blk.arr 3 1 (o.map intLV)) ha, trivial⟩, rfl, rfl⟩
        ((repeat ((conv => whnf); first | refine ⟨eb, ?_⟩ | refine ⟨rfl, ?_⟩)); trivial)
  · have h5 : j = ps.length := by rw [leI_f] at g1; omega
    subst h5
    subst hK
    ((repeat ((conv => whnf); first | refine brT ?_ | refine brF ?_)); conv => whnf)
    exact ⟨(hul _).symm, rfl, rfl, rfl, by simp⟩
end Go.Proofs.Ytplkockghigpdaa


namespace Go.Proofs.Ytplkockghigpdaa
open Go.Lg Go.Pm
set_option maxHeartbeats 3200000
set_option maxRecDepth 10000
set_option linter.unusedVariables false
set_option linter.unusedSimpArgs false

end Go.Proofs.Ytplkockghigpdaa


namespace Go.Proofs.Ytplkockghigpdaa
open Go.Lg Go.Pm
set_option maxHeartbeats 3200000
set_option maxRecDepth 10000
set_option linter.unusedVariables false
set_option linter.unusedSimpArgs false

theorem fam_sh {ps : List Per} {us : List Uni} (h : famOk ps us = true) : shallow (depths ps) = true := by
  unfold famOk at h; simp only [Bool.and_eq_true] at h; exact h.2.2.2.2
/-- The table, as it is read. -/
def upL (ps : List Per) : LV := .sl ((clT ps).map rowSl)
theorem clT_row {ps : List Per} (hp : parsIn ps) (hs : shallow (depths ps) = true) {p : Nat} (h : p < ps.length) : ((clT ps).map rowSl)[p]? = some (rowSl ((upS ps p).map tooF)) := by
  rw [List.getElem?_map, clT_get hp hs h]; rfl
theorem tooRow_at {ps : List Per} {p q : Nat} (h : q < ps.length) : (((upS ps p).map tooF).map intLV)[q]? = some (intLV (tooF (upd ps p q))) := by
  have hl : q < (upS ps p).length := by rw [upS_len]; exact h
  have e : upd ps p q = (upS ps p)[q] := by unfold upd; rw [List.getD_eq_getElem?_getD, List.getElem?_eq_getElem hl]; rfl
  rw [List.getElem?_map, List.getElem?_map, List.getElem?_eq_getElem hl, e]; rfl
theorem upRow_get {ps : List Per} {p q : Nat} (h : q < ps.length) : ((upS ps p).map intLV)[q]? = some (intLV (upd ps p q)) := by
  have hl : q < (upS ps p).length := by rw [upS_len]; exact h
  have e : upd ps p q = (upS ps p)[q] := by unfold upd; rw [List.getD_eq_getElem?_getD, List.getElem?_eq_getElem hl]; rfl
  rw [List.getElem?_map, List.getElem?_eq_getElem hl, e]; rfl
theorem tooF_lead {m : Int} (h : m ≤ 10) : notB (eqI (tooF m) 11) = leI 0 m := by
  unfold tooF
  cases e : ltI m 0 with
  | true => rw [ltI_t] at e; rw [show leI 0 m = false by rw [leI_f]; omega]; simp [notB, eqI]
  | false => rw [ltI_f] at e; rw [leI_t.2 e, show eqI m 11 = false by rw [eqI_f]; omega]; simp [notB]
theorem lead_spec {ps : List Per} (hp : parsIn ps) (hs : shallow (depths ps) = true) {p q : Nat} (h : p < ps.length) (hq : q < ps.length) :
    FSpec env.P 102 [upL ps, .int .i64 (p : Int), .int .i64 (q : Int)] (.bool (leI 0 (upd ps p q))) := by
  refine FSpec_of_code env_ok (fn := Try.f102) Try.func102 rfl Try.call102 _ _ ?_
  have hb := upd_small hp hs h hq
  unfold upL
  rw [← tooF_lead hb.2]
  ((repeat ((conv => whnf); first | refine brT ?_ | refine brF ?_)); conv => whnf)
  refine ⟨p, _, rfl, clT_row hp hs h, rfl, ?_⟩
  ((repeat ((conv => whnf); first | refine brT ?_ | refine brF ?_)); conv => whnf)
  refine ⟨q, _, rfl, tooRow_at hq, rfl, ?_⟩
  ((repeat ((conv => whnf); first | refine brT ?_ | refine brF ?_)); conv => whnf)
  exact fin rfl
/-! ### Lists of persons -/
def belI (x n : Int) : Bool := leI 0 x && ltI x n
theorem isBelow_spec (x n : Int) : FSpec env.P 146 [.int .i64 x, .int .i64 n] (.bool (belI x n)) := by
  refine FSpec_of_code env_ok (fn := Try.f146) Try.func146 rfl Try.call146 _ _ ?_
  unfold belI
  ((repeat ((conv => whnf); first | refine brT ?_ | refine brF ?_)); conv => whnf)
  (refine ⟨fun g => ?_, fun g => ?_⟩ <;> rw [g])
  · ((repeat ((conv => whnf); first | refine brT ?_ | refine brF ?_)); conv => whnf); exact fin rfl
  · ((repeat ((conv => whnf); first | refine brT ?_ | refine brF ?_)); conv => whnf); exact fin rfl
theorem hasP_bel (ps : List Per) (us : List Uni) (p : Int) : hasP ps us p = (belI p ps.length && famOk ps us) := by unfold hasP belI; rw [Bool.and_assoc]
theorem hasPeople_spec (ps : List Per) (us : List Uni) (a b : Int) : FSpec env.P 101 [famLV ps us, .sl [.int .i64 a, .int .i64 b]] (.bool (hasP ps us a && hasP ps us b)) := by
  refine FSpec_of_code env_ok (fn := Try.f101) Try.func101 rfl Try.call101 _ _ ?_
  have hP : (ps.map Per.lv).length = ps.length := List.length_map ..
  rw [hasP_bel, hasP_bel]
  ((repeat ((conv => whnf); first | refine brT ?_ | refine brF ?_)); conv => whnf)
  intro _
  ((repeat ((conv => whnf); first | refine brT ?_ | refine brF ?_)); conv => whnf)
  refine loop_rule (α := Nat) (fun k => [(9, .int .i64 (k : Int))]) (fun k => [.box (famLV ps us)]) (fun k => 2 - k) (fun k => k ≤ 2 ∧ (1 ≤ k → belI a ps.length = true) ∧ (2 ≤ k → belI b ps.length = true)) 0 ⟨Nat.zero_le _, fun h => by omega, fun h => by omega⟩ ?_ ?_
  · refine ⟨?_, ⟨rfl, trivial⟩, rfl, rfl⟩
    ((repeat ((conv => whnf); refine ⟨rfl, ?_⟩)); trivial)
  rintro k ⟨hk, h1, h2⟩
  ((repeat ((conv => whnf); first | refine brT ?_ | refine brF ?_)); conv => whnf)
  (refine ⟨fun g1 => ?_, fun g1 => ?_⟩ <;> rw [g1])
  · have hlt : k < 2 := by rw [ltI_t] at g1; have : (k : Int) < 2 := g1; omega
    have e := step_i hlt (by unfold Go.maxLen; omega)
    ((repeat ((conv => whnf); first | refine brT ?_ | refine brF ?_)); conv => whnf)
    have hget : ([LV.int .i64 a, LV.int .i64 b] : List LV)[k]? = some (.int .i64 (if k = 0 then a else b)) := by
      rcases Nat.lt_or_ge k 1 with h | h
      · obtain rfl : k = 0 := by omega
        rfl
      · obtain rfl : k = 1 := by omega
        rfl
    refine ⟨k, .int .i64 (if k = 0 then a else b), rfl, hget, rfl, ?_⟩
    ((repeat ((conv => whnf); first | refine brT ?_ | refine brF ?_)); conv => whnf)
    intro _
    ((repeat ((conv => whnf); first | refine brT ?_ | refine brF ?_)); conv => whnf)
    rw [hP]
    refine ⟨_, isBelow_spec _ _, ?_⟩
    ((repeat ((conv => whnf); first | refine brT ?_ | refine brF ?_)); conv => whnf)
    cases g2 : belI (if k = 0 then a else b) ps.length
    · rw [show notB false = true by simp [notB]]
      ((repeat ((conv => whnf); first | refine brT ?_ | refine brF ?_)); conv => whnf)
      refine fin ?_
      rcases Nat.lt_or_ge k 1 with h | h
      · obtain rfl : k = 0 := by omega
        rw [if_pos rfl] at g2; simp [g2]
      · obtain rfl : k = 1 := by omega
        rw [if_neg (by omega)] at g2; simp [g2]
    · rw [show notB true = false by simp [notB]]
      ((repeat ((conv => whnf); first | refine brT ?_ | refine brF ?_)); conv => whnf)
      refine round_end (k + 1) ⟨hlt, fun _ => ?_, fun _ => ?_⟩ (by omega) ⟨?_, ⟨rfl, trivial⟩, rfl, rfl⟩
      · rcases Nat.lt_or_ge k 1 with h | h
        · obtain rfl : k = 0 := by omega
          rwa [if_pos rfl] at g2
        · exact h1 h
      · obtain rfl : k = 1 := by omega
        rwa [if_neg (by omega)] at g2
      ((repeat ((conv => whnf); first | refine ⟨e, ?_⟩ | refine ⟨rfl, ?_⟩)); trivial)
  · have h4 : k = 2 := by rw [ltI_f] at g1; have : (2 : Int) ≤ k := g1; omega
    subst h4
    ((repeat ((conv => whnf); first | refine brT ?_ | refine brF ?_)); conv => whnf)
    refine ⟨_, isFamily_impl ps us, ?_⟩
    ((repeat ((conv => whnf); first | refine brT ?_ | refine brF ?_)); conv => whnf)
    refine fin ?_
    rw [h1 (by omega), h2 (by omega)]; simp
end Go.Proofs.Ytplkockghigpdaa


namespace Go.Proofs.Ytplkockghigpdaa
open Go.Lg Go.Pm
set_option maxHeartbeats 3200000
set_option maxRecDepth 10000
set_option linter.unusedVariables false
set_option linter.unusedSimpArgs false

/-! ### Lines of descent -/
/-- c is a child of q from whom p descends. -/
def kidB (ps : List Per) (p q c : Nat) : Bool := eqI (upd ps c q) 1 && leI 0 (upd ps p c)
def stp (ps : List Per) (p : Nat) (L : Nat → List (List Nat)) (q c : Nat) : List (List Nat) := match kidB ps p q c with | true => (L c).map (q :: ·) | false => []
def lnF (ps : List Per) (p : Nat) : Nat → Nat → List (List Nat)
  | 0, _ => []
  | f + 1, q => match Nat.beq q p with | true => [[p]] | false => (List.range ps.length).flatMap (stp ps p (lnF ps p f) q)
def LN (ps : List Per) (p q : Nat) : List (List Nat) := lnF ps p ps.length q
def lnTo (ps : List Per) (p q k : Nat) : List (List Nat) := (List.range k).flatMap (stp ps p (LN ps p) q)
theorem pa_one {ps : List Per} (hp : parsIn ps) {c q : Nat} (hc : c < ps.length) (hq : q < ps.length) : eqI (upd ps c q) 1 = true ↔ isPa ps c q := by
  have L := upd_least hp hc hq
  have z := L.zero
  rw [eqI_t]
  constructor
  · intro h
    rcases L.2 with h1 | ⟨_, h1⟩
    · omega
    · rw [h] at h1
      cases h1 with
      | step h2 h3 => cases h3 with | zero => exact h2
  · intro h
    have h1 := L.1 1 (.step h (.zero q))
    have h2 := isPa_lt hp h
    have : upd ps c q ≠ 0 := fun e => by have := z.1 e; omega
    omega
theorem kid_lt {ps : List Per} (hp : parsIn ps) {p q c : Nat} (hc : c < ps.length) (hq : q < ps.length) (h : kidB ps p q c = true) : q < c := by
  unfold kidB at h
  exact isPa_lt hp ((pa_one hp hc hq).1 (Bool.and_eq_true_iff.1 h).1)
theorem stp_congr {ps : List Per} (hp : parsIn ps) {p q c : Nat} (hc : c < ps.length) (hq : q < ps.length) {L M : Nat → List (List Nat)} (h : q < c → L c = M c) : stp ps p L q c = stp ps p M q c := by
  unfold stp
  cases e : kidB ps p q c with
  | false => rfl
  | true => rw [h (kid_lt hp hc hq e)]
theorem flatMap_congr' {α β : Type} {l : List α} {f g : α → List β} (h : ∀ x ∈ l, f x = g x) : l.flatMap f = l.flatMap g := by
  induction l with
  | nil => rfl
  | cons x l ih => rw [List.flatMap_cons, List.flatMap_cons, h x List.mem_cons_self, ih fun y hy => h y (List.mem_cons_of_mem _ hy)]
theorem lnF_fuel {ps : List Per} (hp : parsIn ps) (p : Nat) : ∀ (f g q : Nat), q < ps.length → ps.length ≤ q + f → ps.length ≤ q + g → lnF ps p f q = lnF ps p g q
  | 0, g, q, hq, h1, h2 => by omega
  | f + 1, 0, q, hq, h1, h2 => by omega
  | f + 1, g + 1, q, hq, h1, h2 => by
    unfold lnF
    cases Nat.beq q p with
    | true => rfl
    | false =>
      refine flatMap_congr' fun c hc => ?_
      rw [List.mem_range] at hc
      exact stp_congr hp hc hq fun hqc => lnF_fuel hp p f g c hc (by omega) (by omega)
theorem LN_self (ps : List Per) (p : Nat) (h : p < ps.length) : LN ps p p = [[p]] := by
  unfold LN
  obtain ⟨n, hn⟩ : ∃ n, ps.length = n + 1 := ⟨ps.length - 1, by omega⟩
  rw [hn]; unfold lnF; rw [show Nat.beq p p = true from Nat.beq_refl p]
theorem LN_rec {ps : List Per} (hp : parsIn ps) {p q : Nat} (hq : q < ps.length) (h : q ≠ p) : LN ps p q = lnTo ps p q ps.length := by
  unfold lnTo
  obtain ⟨n, hn⟩ : ∃ n, ps.length = n + 1 := ⟨ps.length - 1, by omega⟩
  have e : LN ps p q = (List.range ps.length).flatMap (stp ps p (lnF ps p n) q) := by
    unfold LN
    rw [hn]; unfold lnF
    rw [show Nat.beq q p = false by cases hb : Nat.beq q p with | false => rfl | true => exact absurd (Nat.eq_of_beq_eq_true hb) h, hn]
  rw [e]
  refine flatMap_congr' fun c hc => ?_
  rw [List.mem_range] at hc
  exact stp_congr hp hc hq fun hqc => lnF_fuel hp p n ps.length c hc (by omega) (by omega)
theorem lnTo_succ (ps : List Per) (p q k : Nat) : lnTo ps p q (k + 1) = lnTo ps p q k ++ stp ps p (LN ps p) q k := by
  unfold lnTo; rw [List.range_succ, List.flatMap_append]; simp
theorem lnTo_le (ps : List Per) (p q : Nat) {k n : Nat} (h : k ≤ n) : (lnTo ps p q k).length ≤ (lnTo ps p q n).length := by
  induction n with
  | zero => have : k = 0 := by omega
            subst this; exact Nat.le_refl _
  | succ n ih =>
    rcases Nat.lt_or_ge n k with h1 | h1
    · have : k = n + 1 := by omega
      subst this; exact Nat.le_refl _
    · rw [lnTo_succ, List.length_append]; have := ih h1; omega
theorem stp_len {ps : List Per} {p q c : Nat} (h : kidB ps p q c = true) : (stp ps p (LN ps p) q c).length = (LN ps p c).length := by
  unfold stp; rw [h]; exact List.length_map ..
/-- Nobody is too deep: a line is short. -/
theorem lnF_short {ps : List Per} (p : Nat) : ∀ (f q : Nat), ∀ l ∈ lnF ps p f q, l.length ≤ f ∧ ∀ x ∈ l, x < ps.length ∨ x = p ∨ x = q
  | 0, q, l, h => by simp [lnF] at h
  | f + 1, q, l, h => by
    unfold lnF at h
    split at h
    · simp at h; subst h; simp
    · rw [List.mem_flatMap] at h
      obtain ⟨c, hc, hl⟩ := h
      rw [List.mem_range] at hc
      unfold stp at hl
      split at hl
      · rw [List.mem_map] at hl
        obtain ⟨r, hr, rfl⟩ := hl
        obtain ⟨h1, h2⟩ := lnF_short p f c r hr
        refine ⟨by simp; exact h1, fun x hx => ?_⟩
        rcases List.mem_cons.1 hx with rfl | hx
        · exact .inr (.inr rfl)
        · rcases h2 x hx with h | h | h
          · exact .inl h
          · exact .inr (.inl h)
          · exact .inl (by rw [h]; exact hc)
      · simp at hl
theorem LN_short {ps : List Per} {p q : Nat} (hp : p < ps.length) (hq : q < ps.length) : ∀ l ∈ LN ps p q, l.length ≤ ps.length ∧ ∀ x ∈ l, x < ps.length := fun l hl => by
  obtain ⟨h1, h2⟩ := lnF_short p ps.length q l hl
  refine ⟨h1, fun x hx => ?_⟩
  rcases h2 x hx with h | h | h
  · exact h
  · rw [h]; exact hp
  · rw [h]; exact hq
/-- What the specification keeps: no more than one line too many. -/
def tkN (l : List (List Nat)) : List (List Nat) := l.take 101
theorem tkN_app (a b : List (List Nat)) : tkN (tkN a ++ tkN b) = tkN (a ++ b) := by
  unfold tkN
  rw [List.take_append, List.take_append, List.take_take, List.length_take, List.take_take]
  rcases Nat.lt_or_ge a.length 101 with h | h
  · rw [Nat.min_eq_right (Nat.le_of_lt h)]
    simp [Nat.min_eq_left (Nat.sub_le 101 a.length)]
  · rw [Nat.min_eq_left h, show 101 - a.length = 0 by omega]
    simp
theorem isParent_spec {ps : List Per} (hp : parsIn ps) (hs : shallow (depths ps) = true) {q c : Nat} (hc : c < ps.length) (hq : q < ps.length) :
    FSpec env.P 152 [upL ps, .int .i64 (q : Int), .int .i64 (c : Int)] (.bool (eqI (upd ps c q) 1)) := by
  refine FSpec_of_code env_ok (fn := Try.f152) Try.func152 rfl Try.call152 _ _ ?_
  have hb := upd_small hp hs hc hq
  have e : eqI (tooF (upd ps c q)) 1 = eqI (upd ps c q) 1 := by
    unfold tooF
    cases h : ltI (upd ps c q) 0 with
    | true => rw [ltI_t] at h; rw [show eqI (upd ps c q) 1 = false by rw [eqI_f]; omega]; show eqI 11 1 = false; rw [eqI_f]; omega
    | false => rfl
  unfold upL
  rw [← e]
  ((repeat ((conv => whnf); first | refine brT ?_ | refine brF ?_)); conv => whnf)
  refine ⟨c, _, rfl, clT_row hp hs hc, rfl, ?_⟩
  ((repeat ((conv => whnf); first | refine brT ?_ | refine brF ?_)); conv => whnf)
  refine ⟨q, _, rfl, tooRow_at hq, rfl, ?_⟩
  ((repeat ((conv => whnf); first | refine brT ?_ | refine brF ?_)); conv => whnf)
  exact fin rfl
end Go.Proofs.Ytplkockghigpdaa


namespace Go.Lg
variable [GI]
set_option linter.unusedSectionVars false
set_option linter.unusedVariables false
open Go.RowKit
/-- A contract by values out of one by handles, for several results one of which is a tree. -/
theorem FSpec_of_treeT {P : Program} {f : FuncId} {args : List LV} {rs0 rs : List LV} {e k : Nat} {xs : List LV} (h : HSpec P f args [] (.tup rs0) [.row true e k xs]) (hk : exsW [.row false e k (dms xs)] rs0 rs fun ids => ids.Nodup) : FSpec P f args (.tup rs) := by
  unfold HSpec at h
  unfold FSpec
  refine ⟨h.1, fun w O vs hI hO hsz hargs => ?_⟩
  refine (h.2 O w.heap.size w vs (fun _ => default) ⟨Below.refl _ _, ⟨Nat.le_refl _, hI⟩, fun id blk hb => by simp at hb, fun i j bi bj b hi => by simp at hi, fun i bi hi => by simp at hi, hO, fun b _ => rfl, fun id blk b hb => by simp at hb⟩ hsz
    fun i x v hx hv => RT.mono pctx_ctx0 _ _ (hargs i x v hx hv)).mono ?_
  rintro e' w' ⟨v, pl', rfl, g, hr, _⟩
  obtain ⟨pl2, g2, hle⟩ := good_freeze g
  obtain ⟨us, rfl, hsz', hel⟩ := hr
  obtain ⟨ids, h1, h2, h3⟩ := ex_RRt g2 rs0 rs _ us.toList (by simpa using hsz') (fun i y u hy hu => by
    have h0 := hel i y u hy (by rw [← Array.getElem?_toList]; exact hu)
    have := RT1.mono hle _ _ h0
    cases y <;> first | exact this | (simp only [RT1] at this)) hk
  exact ⟨_, rfl, g2.below, blocksOf pl2 ids, blocksOf_nodup g2 ids h2 h1, us, rfl, h3 _ fun b hb => hb.elim .inl (blocksOf_owned h2)⟩
end Go.Lg
namespace Go.Proofs.Ytplkockghigpdaa
open Go.Lg Go.Pm
set_option maxHeartbeats 3200000
set_option maxRecDepth 10000
set_option linter.unusedVariables false
set_option linter.unusedSimpArgs false

def natOw (l : List Nat) : LV := .own 3 1 (l.map natLV)
def natSl (l : List Nat) : LV := .sl (l.map natLV)
def lnB (ps : List Per) (p q : Nat) : Bool := leI ((LN ps p q).length : Int) 100
def lnR (ps : List Per) (p q : Nat) : List (List Nat) := match lnB ps p q with | true => LN ps p q | false => []
def lnTr (l : List (List Nat)) : List LV := l.map natOw
theorem lnTr_len (l : List (List Nat)) : (lnTr l).length = l.length := List.length_map ..
theorem lnTr_snoc (l : List (List Nat)) (r : List Nat) : lnTr l ++ [natOw r] = lnTr (l ++ [r]) := by simp [lnTr]
theorem dms_lnTr (l : List (List Nat)) : dms (lnTr l) = l.map natSl := by
  induction l with
  | nil => rfl
  | cons r l ih =>
    show dms (natOw r :: lnTr l) = natSl r :: l.map natSl
    rw [← ih]
    simp [natOw, natSl, dms, dm]
theorem lnRes_f {f : FuncId} {args : List LV} {l : List (List Nat)} {b : Bool} (h : HSpec env.P f args [] (.tup [.hs 0 (lnTr l).length, .bool b]) [.tree 27 1 (lnTr l)]) : FSpec env.P f args (.tup [.own 27 1 (l.map natSl), .bool b]) :=
  FSpec_of_treeT h (by rw [dms_lnTr]; simp [exW, exsW, lnTr_len])
end Go.Proofs.Ytplkockghigpdaa

