/- Contracts of functions of the program and of its model, told over readings. -/
import Derived.Test.YtdhmnojnkgmmnaaGreatAWGE
import Derived.Test.YtdhmnojnkgmmnaaGreatAWGA
import Derived.Test.YtdhmnojnkgmmnaaGreatALgW
import Derived.Test.YtdhmnojnkgmmnaaGreatAWGC
import Derived.Test.YtdhmnojnkgmmnaaGreatAWGD
namespace Go.Proofs.YtdhmnojnkgmmnaaGreat
open Go.Lg
set_option maxHeartbeats 3200000
set_option maxRecDepth 10000
set_option linter.unusedVariables false
set_option linter.unusedSimpArgs false

/-- Whom a step reaches from a row of people, when 'k' of them are done, and of the next one's people 'i'. -/
def reachC (row : List Bool) (V : Nat → Nat → Bool) (k i j : Nat) : Bool := ((List.range k).any fun a => row.getD a false && V a j) || (decide (j < i) && (row.getD k false && V k j))
def rowC (n : Nat) (row : List Bool) (V : Nat → Nat → Bool) (k i : Nat) : List Bool := (List.range n).map (reachC row V k i)
def reachR (n : Nat) (row : List Bool) (V : Nat → Nat → Bool) : List Bool := rowC n row V row.length 0
theorem rowC_len {n : Nat} {row : List Bool} {V : Nat → Nat → Bool} {k i : Nat} : (rowC n row V k i).length = n := by simp [rowC]
theorem rowC_get {n : Nat} {row : List Bool} {V : Nat → Nat → Bool} {k i j : Nat} (h : j < n) : ((rowC n row V k i).map bLV)[j]? = some (.bool (reachC row V k i j)) := by
  simp [rowC, h, bLV]
theorem rowC_zero {n : Nat} {row : List Bool} {V : Nat → Nat → Bool} : (rowC n row V 0 0).map bLV = List.replicate n (LV.bool false) := by
  apply List.ext_getElem?
  intro j
  by_cases h : j < n
  · rw [rowC_get h]; simp [reachC, h]
  · rw [List.getElem?_eq_none (by simp [rowC]; omega), List.getElem?_eq_none (by simp; omega)]
theorem rowC_step {n : Nat} {row : List Bool} {V : Nat → Nat → Bool} {k i : Nat} (h : (row.getD k false && V k i) = false) : rowC n row V k i = rowC n row V k (i + 1) := by
  unfold rowC
  apply List.map_congr_left
  intro j hj
  unfold reachC
  by_cases hji : j = i
  · subst hji; rw [h]; simp
  · have : decide (j < i + 1) = decide (j < i) := by simp; omega
    rw [this]
theorem rowC_put {n : Nat} {row : List Bool} {V : Nat → Nat → Bool} {k i : Nat} (hi : i < n) (h : (row.getD k false && V k i) = true) : ((rowC n row V k i).map bLV).set i (.bool true) = (rowC n row V k (i + 1)).map bLV := by
  apply List.ext_getElem?
  intro j
  rw [List.getElem?_set]
  split
  · rename_i e
    subst e
    rw [rowC_get hi]
    simp only [List.length_map, rowC_len, hi, if_true]
    unfold reachC
    rw [h]; simp
  · rename_i e
    by_cases hj : j < n
    · rw [rowC_get hj, rowC_get hj]
      unfold reachC
      have : decide (j < i + 1) = decide (j < i) := by simp; omega
      rw [this]
    · rw [List.getElem?_eq_none (by simp [rowC]; omega), List.getElem?_eq_none (by simp [rowC]; omega)]
theorem rowC_row {n : Nat} {row : List Bool} {V : Nat → Nat → Bool} {k : Nat} : rowC n row V k n = rowC n row V (k + 1) 0 := by
  unfold rowC
  apply List.map_congr_left
  intro j hj
  have hj' := List.mem_range.1 hj
  unfold reachC
  rw [List.range_succ, List.any_append]
  simp [hj']
def boolsLV (row : List Bool) : LV := .sl (row.map bLV)
theorem l3Reach_h (ps : List Per) (us : List Uni) (row : List Bool) (s : Pr) (hr : row.length = ps.length) (hN : ps.length ≤ 1048576) :
    HSpec env.P 69 [famLV ps us, boolsLV row, s.lv] [] (.hs 0 ((reachR ps.length row (l3P ps us s)).map bLV).length) [.arr 4 1 ((reachR ps.length row (l3P ps us s)).map bLV)] := by
  refine HSpec_of_code (E := env.x [] 0) env_ok.x (fn := Tryz.f69) Tryz.func69 rfl Tryz.call69 _ _ _ _ ?_
  have er : (row.map bLV).length = ps.length := by rw [List.length_map, hr]
  ((repeat ((conv => whnf); first | refine brT ?_ | refine brF ?_)); conv => whnf)
  intro hm
  ((repeat ((conv => whnf); first | refine brT ?_ | refine brF ?_)); conv => whnf)
  rw [er]
  refine ⟨ps.length, by simp, by simp, by show 1 * ps.length ≤ _; omega, by unfold Go.maxLen; omega, rfl, by decide, ?_⟩
  rw [← rowC_zero (row := row) (V := l3P ps us s)]
  ((repeat ((conv => whnf); first | refine brT ?_ | refine brF ?_)); conv => whnf)
  intro _
  ((repeat ((conv => whnf); first | refine brT ?_ | refine brF ?_)); conv => whnf)
  rw [er]
  refine loop_rule (α := Nat) (fun k => [(16, .int .i64 (k : Int))]) (fun k => [.box (famLV ps us), .box s.lv, .arr 4 1 ((rowC ps.length row (l3P ps us s) k 0).map bLV)]) (fun k => ps.length - k) (fun k => k ≤ ps.length) 0 (Nat.zero_le _) ?_ ?_
  · refine ⟨?_, ⟨rfl, rfl, rfl, trivial⟩, rfl, rfl⟩
    ((repeat ((conv => whnf); refine ⟨rfl, ?_⟩)); trivial)
  intro k hk
  ((repeat ((conv => whnf); first | refine brT ?_ | refine brF ?_)); conv => whnf)
  (refine ⟨fun h1 => ?_, fun h1 => ?_⟩ <;> rw [h1])
  · have hlt : k < ps.length := by rw [ltI_t] at h1; omega
    have hkr : k < row.length := by omega
    have e1 := step_i hlt (by unfold Go.maxLen; omega)
    ((repeat ((conv => whnf); first | refine brT ?_ | refine brF ?_)); conv => whnf)
    refine ⟨k, bLV row[k], rfl, by simp [hkr], rfl, ?_⟩
    ((repeat ((conv => whnf); first | refine brT ?_ | refine brF ?_)); conv => whnf)
    intro _
    ((repeat ((conv => whnf); first | refine brT ?_ | refine brF ?_)); conv => whnf)
    rw [er]
    refine loop_rule (α := Nat) (fun i => [(23, .int .i64 (i : Int))]) (fun i => [.box (famLV ps us), .box s.lv, .arr 4 1 ((rowC ps.length row (l3P ps us s) k i).map bLV)]) (fun i => ps.length - i) (fun i => i ≤ ps.length) 0 (Nat.zero_le _) ?_ ?_
    · refine ⟨?_, ⟨rfl, rfl, rfl, trivial⟩, rfl, rfl⟩
      ((repeat ((conv => whnf); refine ⟨rfl, ?_⟩)); trivial)
    intro i hi
    generalize hKK : kk _ = KK
    ((repeat ((conv => whnf); first | refine brT ?_ | refine brF ?_)); conv => whnf)
    (refine ⟨fun h2 => ?_, fun h2 => ?_⟩ <;> rw [h2])
    · have hil : i < ps.length := by rw [ltI_t] at h2; omega
      have e2 := step_i hil (by unfold Go.maxLen; omega)
      have hgd : row.getD k false = row[k] := by simp [hkr]
      have hlen : ps.length = ((rowC ps.length row (l3P ps us s) k i).map bLV).length := by rw [List.length_map, rowC_len]
      ((repeat ((conv => whnf); first | refine brT ?_ | refine brF ?_)); conv => whnf)
      (refine ⟨fun h3 => ?_, fun h3 => ?_⟩ <;> rw [h3])
      · ((repeat ((conv => whnf); first | refine brT ?_ | refine brF ?_)); conv => whnf)
        refine ⟨_, l3Leads_spec ps us s k i hlt hil, ?_⟩
        ((repeat ((conv => whnf); first | refine brT ?_ | refine brF ?_)); conv => whnf)
        (refine ⟨fun h4 => ?_, fun h4 => ?_⟩ <;> rw [h4])
        · have hput := rowC_put (row := row) (V := l3P ps us s) (k := k) hil (by rw [hgd, h3, h4]; rfl)
          ((repeat ((conv => whnf); first | refine brT ?_ | refine brF ?_)); conv => whnf)
          refine ⟨hlen, rfl, i, rfl, by rw [← hlen]; exact hil, ?_⟩
          ((repeat ((conv => whnf); first | refine brT ?_ | refine brF ?_)); conv => whnf)
          refine ⟨hlen, i, [], .bool (reachC row (l3P ps us s) k i i), rfl, by simp only [getP]; rw [rowC_get hil], rfl, rfl, rfl, (rowC ps.length row (l3P ps us s) k (i + 1)).map bLV, by rw [rowC_get hil]; exact hput, ?_⟩
          ((repeat ((conv => whnf); first | refine brT ?_ | refine brF ?_)); conv => whnf)
          refine round_end (i + 1) hil (by omega) ⟨?_, ⟨rfl, rfl, rfl, trivial⟩, rfl, rfl⟩
          ((repeat ((conv => whnf); first | refine ⟨e2, ?_⟩ | refine ⟨rfl, ?_⟩)); trivial)
        · have ep := rowC_step (n := ps.length) (row := row) (V := l3P ps us s) (k := k) (i := i) (by rw [h4]; simp)
          ((repeat ((conv => whnf); first | refine brT ?_ | refine brF ?_)); conv => whnf)
          refine round_end (i + 1) hil (by omega) ⟨?_, ⟨rfl, rfl, by rw [ep], trivial⟩, rfl, rfl⟩
          ((repeat ((conv => whnf); first | refine ⟨e2, ?_⟩ | refine ⟨rfl, ?_⟩)); trivial)
      · have ep := rowC_step (n := ps.length) (row := row) (V := l3P ps us s) (k := k) (i := i) (by rw [hgd, h3]; rfl)
        ((repeat ((conv => whnf); first | refine brT ?_ | refine brF ?_)); conv => whnf)
        refine round_end (i + 1) hil (by omega) ⟨?_, ⟨rfl, rfl, by rw [ep], trivial⟩, rfl, rfl⟩
        ((repeat ((conv => whnf); first | refine ⟨e2, ?_⟩ | refine ⟨rfl, ?_⟩)); trivial)
    · have hil : i = ps.length := by rw [ltI_f] at h2; omega
      subst hil
      subst hKK
      ((repeat ((conv => whnf); first | refine brT ?_ | refine brF ?_)); conv => whnf)
      refine round_end (k + 1) hlt (by omega) ⟨?_, ⟨rfl, rfl, by rw [rowC_row], trivial⟩, rfl, rfl⟩
      ((repeat ((conv => whnf); first | refine ⟨e1, ?_⟩ | refine ⟨rfl, ?_⟩)); trivial)
  · have h3 : k = ps.length := by rw [ltI_f] at h1; omega
    subst h3
    have ef : rowC ps.length row (l3P ps us s) ps.length 0 = reachR ps.length row (l3P ps us s) := by unfold reachR; rw [hr]
    rw [ef]
    ((repeat ((conv => whnf); first | refine brT ?_ | refine brF ?_)); conv => whnf)
    exact ⟨[.hs 0 ((reachR ps.length row (l3P ps us s)).map bLV).length], by rw [List.length_map]; unfold reachR; rw [rowC_len]; rfl, rfl, .inr ⟨[.old 2], ⟨rfl, by rw [List.length_map]; unfold reachR; rw [rowC_len]; rfl, trivial⟩, ⟨rfl, rfl, trivial⟩, rfl⟩⟩

/-- The people of a row. -/
def listedTo (row : List Bool) (k : Nat) : List Int := ((List.range k).filter fun a => row.getD a false).map Int.ofNat
theorem listedTo_succ (row : List Bool) (k : Nat) : listedTo row (k + 1) = listedTo row k ++ (match row.getD k false with | true => [(k : Int)] | false => []) := by
  unfold listedTo
  rw [List.range_succ, List.filter_append, List.map_append]
  have hf : List.filter (fun a => row.getD a false) [k] = (match row.getD k false with | true => [k] | false => []) := by
    rw [List.filter_cons]
    show (if row.getD k false = true then [k] else []) = _
    cases row.getD k false <;> rfl
  rw [hf]
  cases row.getD k false <;> rfl
theorem listedTo_len (row : List Bool) (k : Nat) : (listedTo row k).length ≤ k := by
  unfold listedTo
  rw [List.length_map]
  exact Nat.le_trans (List.length_filter_le _ _) (by simp)
theorem l3Listed_h (row : List Bool) (hN : row.length ≤ 1048576) : HSpec env.P 33 [boolsLV row] [] (.hs 0 ((listedTo row row.length).map intLV).length) [.arr 3 1 ((listedTo row row.length).map intLV)] := by
  refine HSpec_of_code (E := env.x [] 0) env_ok.x (fn := Tryz.f33) Tryz.func33 rfl Tryz.call33 _ _ _ _ ?_
  have er : (row.map bLV).length = row.length := List.length_map ..
  ((repeat ((conv => whnf); first | refine brT ?_ | refine brF ?_)); conv => whnf)
  intro hm
  ((repeat ((conv => whnf); first | refine brT ?_ | refine brF ?_)); conv => whnf)
  rw [er]
  refine loop_ruleR (α := Nat) [.old 0] (fun k => [(9, .int .i64 (k : Int)), (6, .undef), (3, .hs 0 ((listedTo row k).map intLV).length)]) (fun k => [.arr 3 1 ((listedTo row k).map intLV)]) (fun k => row.length - k) (fun k => k ≤ row.length) 0 (Nat.zero_le _) ?_ ?_
  · refine ⟨?_, ⟨rfl, rfl, trivial⟩, rfl⟩
    ((repeat ((conv => whnf); refine ⟨rfl, rfl, ?_⟩)); trivial)
  intro k hk
  ((repeat ((conv => whnf); first | refine brT ?_ | refine brF ?_)); conv => whnf)
  (refine ⟨fun h1 => ?_, fun h1 => ?_⟩ <;> rw [h1])
  · have hlt : k < row.length := by rw [ltI_t] at h1; omega
    have hll := listedTo_len row k
    have e := step_i hlt (by unfold Go.maxLen; omega)
    have hgd : row.getD k false = row[k] := by simp [hlt]
    have hsucc := listedTo_succ row k
    rw [hgd] at hsucc
    ((repeat ((conv => whnf); first | refine brT ?_ | refine brF ?_)); conv => whnf)
    refine ⟨k, bLV row[k], rfl, by simp [hlt], rfl, ?_⟩
    ((repeat ((conv => whnf); first | refine brT ?_ | refine brF ?_)); conv => whnf)
    (refine ⟨fun h3 => ?_, fun h3 => ?_⟩ <;> rw [h3])
    · have e2 : (listedTo row k).map intLV ++ [LV.int .i64 (k : Int)] = (listedTo row (k + 1)).map intLV := by rw [hsucc, h3, List.map_append]; rfl
      have e3 : LV.hs 0 ((listedTo row k).map intLV ++ [LV.int .i64 (k : Int)]).length = LV.hs 0 ((listedTo row (k + 1)).map intLV).length := by rw [e2]
      ((repeat ((conv => whnf); first | refine brT ?_ | refine brF ?_)); conv => whnf)
      refine ⟨rfl, rfl, ?_, ?_, ?_⟩
      · rw [List.length_append, List.length_map]; unfold Go.maxLen; simp; omega
      · rw [List.length_append, List.length_map]; simp; omega
      ((repeat ((conv => whnf); first | refine brT ?_ | refine brF ?_)); conv => whnf)
      refine round_endR [.old 2] (k + 1) hlt (by omega) ⟨?_, ⟨rfl, congrArg (Blk.arr 3 1) e2, trivial⟩, rfl⟩
      (repeat ((conv => whnf); first | refine ⟨rfl, e, ?_⟩ | refine ⟨rfl, e3, ?_⟩ | refine ⟨rfl, rfl, ?_⟩))
      trivial
    · have e2 : listedTo row k = listedTo row (k + 1) := by rw [hsucc, h3]; simp
      have e3 : LV.hs 0 ((listedTo row k).map intLV).length = LV.hs 0 ((listedTo row (k + 1)).map intLV).length := by rw [e2]
      ((repeat ((conv => whnf); first | refine brT ?_ | refine brF ?_)); conv => whnf)
      refine round_endR [.old 0] (k + 1) hlt (by omega) ⟨?_, ⟨rfl, by rw [e2]; rfl, trivial⟩, rfl⟩
      (repeat ((conv => whnf); first | refine ⟨rfl, e, ?_⟩ | refine ⟨rfl, e3, ?_⟩ | refine ⟨rfl, rfl, ?_⟩))
      trivial
  · have h3 : k = row.length := by rw [ltI_f] at h1; omega
    subst h3
    ((repeat ((conv => whnf); first | refine brT ?_ | refine brF ?_)); conv => whnf)
    exact ⟨[.hs 0 ((listedTo row row.length).map intLV).length], rfl, rfl, .inl ⟨⟨rfl, trivial⟩, ⟨rfl, trivial⟩, rfl, rfl⟩⟩
end Go.Proofs.YtdhmnojnkgmmnaaGreat


namespace Go.Proofs.YtdhmnojnkgmmnaaGreat
open Go.Lg
set_option maxHeartbeats 3200000
set_option maxRecDepth 10000
set_option linter.unusedVariables false
set_option linter.unusedSimpArgs false

/-- Who may be ego of a type; whom its first 'k' steps reach. -/
def startB (e : Int) (x : Per) : Bool := eqI e 0 || eqI e x.sex
def startR (n a : Nat) (b : Bool) : List Bool := (List.range n).map fun j => decide (j = a) && b
theorem startR_set {n a : Nat} {b : Bool} (h : a < n) : (List.replicate n (LV.bool false)).set a (.bool b) = (startR n a b).map bLV := by
  apply List.ext_getElem?
  intro j
  rw [List.getElem?_set]
  split
  · rename_i e; subst e; simp [startR, h, bLV]
  · rename_i e
    by_cases hj : j < n
    · simp [startR, hj, bLV, Ne.symm e]
    · rw [List.getElem?_eq_none (by simp; omega), List.getElem?_eq_none (by simp [startR]; omega)]
def relW (ps : List Per) (us : List Uni) (e : Int) (ss : List Pr) (a : Nat) : Nat → List Bool
  | 0 => startR ps.length a (match ps[a]? with | some x => startB e x | none => false)
  | k + 1 => reachR ps.length (relW ps us e ss a k) (l3P ps us (ss.getD k ⟨0, 0⟩))
theorem relW_len {ps : List Per} {us : List Uni} {e : Int} {ss : List Pr} {a : Nat} : ∀ k, (relW ps us e ss a k).length = ps.length
  | 0 => by simp [relW, startR]
  | k + 1 => by simp [relW, reachR, rowC_len]
theorem flats_bools : ∀ xs : List Bool, flatsB (xs.map bLV) = true
  | [] => rfl
  | p :: xs => by simp only [List.map_cons, flatsB, flats_bools xs]; rfl
theorem l3Relatives_h (ps : List Per) (us : List Uni) (a : Nat) (e : Int) (ss : List Pr) (ha : a < ps.length) (hN : ps.length ≤ 1048576) (hs : ss.length ≤ Go.maxLen) :
    HSpec env.P 34 [famLV ps us, .int .i64 (a : Int), typLV e ss] [] (.hs 0 ((relW ps us e ss a ss.length).map bLV).length) [.arr 4 1 ((relW ps us e ss a ss.length).map bLV)] := by
  refine HSpec_of_code (E := env.x [69] 0) env_ok.x (fn := Tryz.f34) Tryz.func34 rfl Tryz.call34 _ _ _ _ ?_
  have ep : (ps.map Per.lv).length = ps.length := List.length_map ..
  have es : (ss.map Pr.lv).length = ss.length := List.length_map ..
  ((repeat ((conv => whnf); first | refine brT ?_ | refine brF ?_)); conv => whnf)
  intro hm
  ((repeat ((conv => whnf); first | refine brT ?_ | refine brF ?_)); conv => whnf)
  rw [ep]
  refine ⟨ps.length, by simp, by simp, by show 1 * ps.length ≤ _; omega, by unfold Go.maxLen; omega, rfl, by decide, ?_⟩
  ((repeat ((conv => whnf); first | refine brT ?_ | refine brF ?_)); conv => whnf)
  have key : ∀ b : Bool, b = startB e ps[a] → (List.replicate ps.length (LV.bool false)).set a (.bool b) = (relW ps us e ss a 0).map bLV := fun b hb => by
    rw [startR_set ha]; simp [relW, ha, hb]
  have hlr : ps.length = (List.replicate ps.length (LV.bool false)).length := by simp
  have hgr : (List.replicate ps.length (LV.bool false))[a]? = some (.bool false) := by simp [ha]
  refine ⟨false, 16, by kernel_rfl, ?_⟩
  ((repeat ((conv => whnf); first | refine brT ?_ | refine brF ?_)); conv => whnf)
  (refine ⟨fun h1 => ?_, fun h1 => ?_⟩ <;> rw [h1])
  · ((repeat ((conv => whnf); first | refine brT ?_ | refine brF ?_)); conv => whnf)
    refine ⟨hlr, rfl, a, rfl, by simpa using ha, ?_⟩
    ((repeat ((conv => whnf); first | refine brT ?_ | refine brF ?_)); conv => whnf)
    refine ⟨hlr, a, [], .bool false, rfl, by simp only [getP]; rw [hgr], rfl, rfl, rfl, (relW ps us e ss a 0).map bLV, by rw [hgr]; exact key true (by unfold startB; rw [h1]; rfl), ?_⟩
    ((repeat ((conv => whnf); first | refine brT ?_ | refine brF ?_)); conv => whnf)
    intro _
    ((repeat ((conv => whnf); first | refine brT ?_ | refine brF ?_)); conv => whnf)
    rw [es]
    refine loop_ruleR (α := Nat) [.old 0, .old 1, .old 2] (fun k => [(34, .int .i64 (k : Int)), (13, .undef), (14, .undef), (30, .undef), (7, .hs 2 ps.length)]) (fun k => [.box (famLV ps us), .box (typLV e ss), .arr 4 1 ((relW ps us e ss a k).map bLV)]) (fun k => ss.length - k) (fun k => k ≤ ss.length) 0 (Nat.zero_le _) ?_ ?_
    · refine ⟨?_, ⟨rfl, rfl, rfl, rfl, rfl, rfl, trivial⟩, rfl⟩
      ((repeat ((conv => whnf); refine ⟨rfl, rfl, ?_⟩)); trivial)
    intro k hk
    ((repeat ((conv => whnf); first | refine brT ?_ | refine brF ?_)); conv => whnf)
    (refine ⟨fun g1 => ?_, fun g1 => ?_⟩ <;> rw [g1])
    · have hlt : k < ss.length := by rw [ltI_t] at g1; omega
      have e1 := step_i hlt hs
      have hl := relW_len (ps := ps) (us := us) (e := e) (ss := ss) (a := a) k
      have hw : relW ps us e ss a (k + 1) = reachR ps.length (relW ps us e ss a k) (l3P ps us ss[k]) := by show reachR ps.length _ (l3P ps us (ss.getD k ⟨0, 0⟩)) = _; simp [hlt]
      have hl' : ((relW ps us e ss a k).map bLV).length = ps.length := by rw [List.length_map, hl]
      ((repeat ((conv => whnf); first | refine brT ?_ | refine brF ?_)); conv => whnf)
      refine ⟨k, ss[k].lv, rfl, by simp [hlt], rfl, ?_⟩
      ((repeat ((conv => whnf); first | refine brT ?_ | refine brF ?_)); conv => whnf)
      refine ⟨[], _, _, _, _, l3Reach_h ps us (relW ps us e ss a k) ss[k] hl hN, rfl, ?_⟩
      ((repeat ((conv => whnf); first | refine brT ?_ | refine brF ?_)); conv => whnf)
      refine ⟨hl'.symm, ?_⟩
      ((repeat ((conv => whnf); first | refine brT ?_ | refine brF ?_)); conv => whnf)
      refine ⟨rfl, rfl, ⟨rfl, flats_bools _, trivial⟩, ?_⟩
      have hl2 := relW_len (ps := ps) (us := us) (e := e) (ss := ss) (a := a) (k + 1)
      have e3 : LV.hs 2 ((reachR ps.length (relW ps us e ss a k) (l3P ps us ss[k])).map bLV).length = LV.hs 2 ps.length := by rw [← hw, List.length_map, hl2]
      have e4 : (reachR ps.length (relW ps us e ss a k) (l3P ps us ss[k])).map bLV = (relW ps us e ss a (k + 1)).map bLV := by rw [hw]
      ((repeat ((conv => whnf); first | refine brT ?_ | refine brF ?_)); conv => whnf)
      refine round_endR [.old 0, .old 1, .old 4] (k + 1) hlt (by omega) ⟨?_, ⟨rfl, rfl, rfl, rfl, rfl, congrArg (Blk.arr 4 1) e4, trivial⟩, rfl⟩
      (repeat ((conv => whnf); first | refine ⟨rfl, e1, ?_⟩ | refine ⟨rfl, e3, ?_⟩ | refine ⟨rfl, rfl, ?_⟩))
      trivial
    · have h3 : k = ss.length := by rw [ltI_f] at g1; omega
      subst h3
      have hl2 := relW_len (ps := ps) (us := us) (e := e) (ss := ss) (a := a) ss.length
      have e5 : LV.hs 0 ps.length = LV.hs 0 ((relW ps us e ss a ss.length).map bLV).length := by rw [List.length_map, hl2]
      ((repeat ((conv => whnf); first | refine brT ?_ | refine brF ?_)); conv => whnf)
      exact ⟨[.hs 0 ((relW ps us e ss a ss.length).map bLV).length], rfl, rfl, .inr ⟨[.old 2], ⟨rfl, e5, trivial⟩, ⟨rfl, rfl, trivial⟩, rfl⟩⟩
  · ((repeat ((conv => whnf); first | refine brT ?_ | refine brF ?_)); conv => whnf)
    refine ⟨a, ps[a].lv, rfl, by simp [ha], rfl, ?_⟩
    ((repeat ((conv => whnf); first | refine brT ?_ | refine brF ?_)); conv => whnf)
    refine ⟨hlr, rfl, a, rfl, by simpa using ha, ?_⟩
    ((repeat ((conv => whnf); first | refine brT ?_ | refine brF ?_)); conv => whnf)
    refine ⟨hlr, a, [], .bool false, rfl, by simp only [getP]; rw [hgr], rfl, rfl, rfl, (relW ps us e ss a 0).map bLV, by rw [hgr]; exact key (eqI e ps[a].sex) (by unfold startB; rw [h1]; rfl), ?_⟩
    ((repeat ((conv => whnf); first | refine brT ?_ | refine brF ?_)); conv => whnf)
    intro _
    ((repeat ((conv => whnf); first | refine brT ?_ | refine brF ?_)); conv => whnf)
    rw [es]
    refine loop_ruleR (α := Nat) [.old 0, .old 1, .old 2] (fun k => [(34, .int .i64 (k : Int)), (13, .undef), (14, .undef), (30, .undef), (7, .hs 2 ps.length)]) (fun k => [.box (famLV ps us), .box (typLV e ss), .arr 4 1 ((relW ps us e ss a k).map bLV)]) (fun k => ss.length - k) (fun k => k ≤ ss.length) 0 (Nat.zero_le _) ?_ ?_
    · refine ⟨?_, ⟨rfl, rfl, rfl, rfl, rfl, rfl, trivial⟩, rfl⟩
      ((repeat ((conv => whnf); refine ⟨rfl, rfl, ?_⟩)); trivial)
    intro k hk
    ((repeat ((conv => whnf); first | refine brT ?_ | refine brF ?_)); conv => whnf)
    (refine ⟨fun g1 => ?_, fun g1 => ?_⟩ <;> rw [g1])
    · have hlt : k < ss.length := by rw [ltI_t] at g1; omega
      have e1 := step_i hlt hs
      have hl := relW_len (ps := ps) (us := us) (e := e) (ss := ss) (a := a) k
      have hw : relW ps us e ss a (k + 1) = reachR ps.length (relW ps us e ss a k) (l3P ps us ss[k]) := by show reachR ps.length _ (l3P ps us (ss.getD k ⟨0, 0⟩)) = _; simp [hlt]
      have hl' : ((relW ps us e ss a k).map bLV).length = ps.length := by rw [List.length_map, hl]
      ((repeat ((conv => whnf); first | refine brT ?_ | refine brF ?_)); conv => whnf)
      refine ⟨k, ss[k].lv, rfl, by simp [hlt], rfl, ?_⟩
      ((repeat ((conv => whnf); first | refine brT ?_ | refine brF ?_)); conv => whnf)
      refine ⟨[], _, _, _, _, l3Reach_h ps us (relW ps us e ss a k) ss[k] hl hN, rfl, ?_⟩
      ((repeat ((conv => whnf); first | refine brT ?_ | refine brF ?_)); conv => whnf)
      refine ⟨hl'.symm, ?_⟩
      ((repeat ((conv => whnf); first | refine brT ?_ | refine brF ?_)); conv => whnf)
      refine ⟨rfl, rfl, ⟨rfl, flats_bools _, trivial⟩, ?_⟩
      have hl2 := relW_len (ps := ps) (us := us) (e := e) (ss := ss) (a := a) (k + 1)
      have e3 : LV.hs 2 ((reachR ps.length (relW ps us e ss a k) (l3P ps us ss[k])).map bLV).length = LV.hs 2 ps.length := by rw [← hw, List.length_map, hl2]
      have e4 : (reachR ps.length (relW ps us e ss a k) (l3P ps us ss[k])).map bLV = (relW ps us e ss a (k + 1)).map bLV := by rw [hw]
      ((repeat ((conv => whnf); first | refine brT ?_ | refine brF ?_)); conv => whnf)
      refine round_endR [.old 0, .old 1, .old 4] (k + 1) hlt (by omega) ⟨?_, ⟨rfl, rfl, rfl, rfl, rfl, congrArg (Blk.arr 4 1) e4, trivial⟩, rfl⟩
      (repeat ((conv => whnf); first | refine ⟨rfl, e1, ?_⟩ | refine ⟨rfl, e3, ?_⟩ | refine ⟨rfl, rfl, ?_⟩))
      trivial
    · have h3 : k = ss.length := by rw [ltI_f] at g1; omega
      subst h3
      have hl2 := relW_len (ps := ps) (us := us) (e := e) (ss := ss) (a := a) ss.length
      have e5 : LV.hs 0 ps.length = LV.hs 0 ((relW ps us e ss a ss.length).map bLV).length := by rw [List.length_map, hl2]
      ((repeat ((conv => whnf); first | refine brT ?_ | refine brF ?_)); conv => whnf)
      exact ⟨[.hs 0 ((relW ps us e ss a ss.length).map bLV).length], rfl, rfl, .inr ⟨[.old 2], ⟨rfl, e5, trivial⟩, ⟨rfl, rfl, trivial⟩, rfl⟩⟩
end Go.Proofs.YtdhmnojnkgmmnaaGreat


namespace Go.Proofs.YtdhmnojnkgmmnaaGreat
open Go.Lg
set_option maxHeartbeats 3200000
set_option maxRecDepth 10000
set_option linter.unusedVariables false
set_option linter.unusedSimpArgs false

/-! ### RelativesOf: a row of the relation -/
theorem mapR_getD {n j : Nat} (f : Nat → Bool) (h : j < n) : ((List.range n).map f).getD j false = f j := by
  rw [List.getD_eq_getElem?_getD, List.getElem?_map, List.getElem?_range h]; rfl
theorem relW_walk {ps : List Per} {us : List Uni} {e : Int} {ss : List Pr} {p : Nat} (hp : p < ps.length) : ∀ (k j : Nat), j < ps.length → (relW ps us e ss p k).getD j false = walkTo ps us e ss k p j
  | 0, j, hj => by
    show (startR _ _ _).getD j false = egoTo ps e ps.length p j
    unfold startR
    rw [mapR_getD _ hj]
    unfold egoTo egoAt
    by_cases h : j = p
    · subst h; simp [hj, startB, egoB]
    · simp [h, Ne.symm h]
  | k + 1, j, hj => by
    show (reachR _ _ _).getD j false = compP ps.length _ _ p j
    unfold reachR rowC
    rw [mapR_getD _ hj, relW_len]
    unfold reachC compP onP
    rw [Bool.eq_iff_iff]
    simp only [Nat.not_lt_zero, decide_false, Bool.false_and, Bool.or_false, List.any_eq_true, List.mem_range, Bool.and_eq_true, decide_eq_true_eq]
    constructor
    · rintro ⟨b, hb, h1, h2⟩
      exact ⟨b, hb, by rw [← relW_walk hp k b hb]; exact h1, h2⟩
    · rintro ⟨b, hb, h1, h2⟩
      exact ⟨b, hb, by rw [relW_walk hp k b hb]; exact h1, h2⟩
def relvL (ps : List Per) (us : List Uni) (p e : Int) (ss : List Pr) : List Int := match hasP ps us p && typB e ss with | true => listedTo (relW ps us e ss p.toNat ss.length) ps.length | false => []
theorem row_listed {ps : List Per} {us : List Uni} {e : Int} {ss : List Pr} {p : Nat} (hp : p < ps.length) :
    ((relRows ps.length (walkTo ps us e ss ss.length)).map rowOw)[p]? = some (rowOw (listedTo (relW ps us e ss p ss.length) ps.length)) := by
  unfold relRows listedTo
  rw [List.getElem?_map, List.getElem?_map, List.getElem?_range hp]
  simp only [Option.map_some, Option.some.injEq]
  congr 1
  have : (List.range ps.length).filter (fun a => (relW ps us e ss p ss.length).getD a false) = (List.range ps.length).filter fun b => walkTo ps us e ss ss.length p b :=
    List.filter_congr fun j hj => relW_walk hp _ j (List.mem_range.1 hj)
  rw [this]; rfl
theorem relatives_spec (ps : List Per) (us : List Uni) (p e : Int) (ss : List Pr) (hs : ss.length ≤ Go.maxLen) :
    HSpec env.P 7 [famLV ps us, .int .i64 p, typLV e ss] [] (.hs 0 ((relvL ps us p e ss).map intLV).length) [.arr 3 1 ((relvL ps us p e ss).map intLV)] := by
  refine HSpec_of_code (E := env.x [34, 33] 0) env_ok.x (fn := Tryz.f7) Tryz.func7 rfl Tryz.call7 _ _ _ _ ?_
  unfold relvL
  ((repeat ((conv => whnf); first | refine brT ?_ | refine brF ?_)); conv => whnf)
  refine ⟨_, l1Has_spec ps us p, ?_⟩
  ((repeat ((conv => whnf); first | refine brT ?_ | refine brF ?_)); conv => whnf)
  cases h : hasP ps us p
  · rw [show notB false = true by simp [notB]]
    ((repeat ((conv => whnf); first | refine brT ?_ | refine brF ?_)); conv => whnf)
    exact ⟨[.hs 0 0], rfl, rfl, .nl [.tmp 0 [] false 3 1] [.old 2] ⟨⟨rfl, rfl, trivial⟩, ⟨rfl, rfl, trivial⟩, rfl⟩⟩
  rw [show notB true = false by simp [notB]]
  ((repeat ((conv => whnf); first | refine brT ?_ | refine brF ?_)); conv => whnf)
  refine ⟨_, isType_spec e ss, ?_⟩
  ((repeat ((conv => whnf); first | refine brT ?_ | refine brF ?_)); conv => whnf)
  cases h2 : typB e ss
  · rw [show notB false = true by simp [notB]]
    ((repeat ((conv => whnf); first | refine brT ?_ | refine brF ?_)); conv => whnf)
    exact ⟨[.hs 0 0], rfl, rfl, .nl [.tmp 0 [] false 3 1] [.old 2] ⟨⟨rfl, rfl, trivial⟩, ⟨rfl, rfl, trivial⟩, rfl⟩⟩
  rw [show notB true = false by simp [notB]]
  ((repeat ((conv => whnf); first | refine brT ?_ | refine brF ?_)); conv => whnf)
  obtain ⟨p0, pl, hf0⟩ := hasP_lt h
  have hl := (famOk_parts hf0).1
  obtain ⟨n, rfl⟩ : ∃ n : Nat, p = (n : Int) := ⟨p.toNat, by omega⟩
  simp only [Int.toNat_natCast] at pl
  rw [Int.toNat_natCast]
  have hwl := relW_len (ps := ps) (us := us) (e := e) (ss := ss) (a := n) ss.length
  refine ⟨[], _, _, _, _, l3Relatives_h ps us n e ss pl (by omega) hs, rfl, rfl, rfl, trivial, ?_⟩
  ((repeat ((conv => whnf); first | refine brT ?_ | refine brF ?_)); conv => whnf)
  refine ⟨[], _, _, _, _, l3Listed_h (relW ps us e ss n ss.length) (by omega), rfl, ?_⟩
  rw [hwl]
  ((repeat ((conv => whnf); first | refine brT ?_ | refine brF ?_)); conv => whnf)
  refine ⟨rfl, ?_⟩
  ((repeat ((conv => whnf); first | refine brT ?_ | refine brF ?_)); conv => whnf)
  refine ⟨rfl, rfl, ⟨rfl, flats_ints _, trivial⟩, ?_⟩
  ((repeat ((conv => whnf); first | refine brT ?_ | refine brF ?_)); conv => whnf)
  exact ⟨[.hs 0 ((listedTo (relW ps us e ss n ss.length) ps.length).map intLV).length], rfl, rfl, .inr ⟨[.old 3], ⟨rfl, rfl, trivial⟩, ⟨rfl, rfl, trivial⟩, rfl⟩⟩
theorem relatives_impl (ps : List Per) (us : List Uni) (p e : Int) (ss : List Pr) :
    HSpec env.P 10 [famLV ps us, .int .i64 p, typLV e ss] [] (.hs 0 ((relvL ps us p e ss).map intLV).length) [.arr 3 1 ((relvL ps us p e ss).map intLV)] := by
  refine HSpec_of_code (E := env.x [40] 0) env_ok.x (fn := Tryz.f10) Tryz.func10 rfl Tryz.call10 _ _ _ _ ?_
  unfold relvL
  ((repeat ((conv => whnf); first | refine brT ?_ | refine brF ?_)); conv => whnf)
  refine ⟨_, hasPerson_spec ps us p, ?_⟩
  ((repeat ((conv => whnf); first | refine brT ?_ | refine brF ?_)); conv => whnf)
  cases h : hasP ps us p
  · rw [show notB false = true by simp [notB]]
    ((repeat ((conv => whnf); first | refine brT ?_ | refine brF ?_)); conv => whnf)
    exact ⟨[.hs 0 0], rfl, rfl, .nl [.tmp 0 [] false 3 1] [.old 2] ⟨⟨rfl, rfl, trivial⟩, ⟨rfl, rfl, trivial⟩, rfl⟩⟩
  rw [show notB true = false by simp [notB]]
  ((repeat ((conv => whnf); first | refine brT ?_ | refine brF ?_)); conv => whnf)
  refine ⟨_, isType_impl e ss, ?_⟩
  ((repeat ((conv => whnf); first | refine brT ?_ | refine brF ?_)); conv => whnf)
  cases h2 : typB e ss
  · rw [show notB false = true by simp [notB]]
    ((repeat ((conv => whnf); first | refine brT ?_ | refine brF ?_)); conv => whnf)
    exact ⟨[.hs 0 0], rfl, rfl, .nl [.tmp 0 [] false 3 1] [.old 2] ⟨⟨rfl, rfl, trivial⟩, ⟨rfl, rfl, trivial⟩, rfl⟩⟩
  rw [show notB true = false by simp [notB]]
  ((repeat ((conv => whnf); first | refine brT ?_ | refine brF ?_)); conv => whnf)
  obtain ⟨p0, pl, hf0⟩ := hasP_lt h
  have hl := (famOk_parts hf0).1
  obtain ⟨n, rfl⟩ : ∃ n : Nat, p = (n : Int) := ⟨p.toNat, by omega⟩
  simp only [Int.toNat_natCast] at pl
  rw [Int.toNat_natCast]
  have hf := hf0
  have hF : forN ps us e ss = ps.length := by unfold forN; rw [hf, h2]; rfl
  have hR := row_listed (us := us) (e := e) (ss := ss) pl
  have hI := implFor_h ps us e ss
  rw [hF] at hI
  have hlen : ((relRows ps.length (walkTo ps us e ss ss.length)).map rowOw).length = ps.length := by rw [List.length_map, relRows_len]
  refine ⟨[], _, _, _, _, hI, rfl, rfl, rfl, trivial, ?_⟩
  ((repeat ((conv => whnf); first | refine brT ?_ | refine brF ?_)); conv => whnf)
  refine ⟨rfl, _, rfl, ?_⟩
  ((repeat ((conv => whnf); first | refine brT ?_ | refine brF ?_)); conv => whnf)
  refine ⟨rfl, rfl, rfl, n, rfl, by rw [hlen]; exact pl, ?_⟩
  ((repeat ((conv => whnf); first | refine brT ?_ | refine brF ?_)); conv => whnf)
  refine ⟨rfl, _, _, hR, rfl, ?_⟩
  ((repeat ((conv => whnf); first | refine brT ?_ | refine brF ?_)); conv => whnf)
  exact ⟨[.hs 0 ((listedTo (relW ps us e ss n ss.length) ps.length).map intLV).length], rfl, rfl, .inr ⟨[.old 3], ⟨rfl, rfl, trivial⟩, ⟨rfl, rfl, trivial⟩, rfl⟩⟩
end Go.Proofs.YtdhmnojnkgmmnaaGreat


namespace Go.Proofs.YtdhmnojnkgmmnaaGreat
open Go.Lg
set_option maxHeartbeats 1600000
set_option maxRecDepth 10000
set_option linter.unusedVariables false
set_option linter.unusedSimpArgs false

/-! ### Rows of texts -/
end Go.Proofs.YtdhmnojnkgmmnaaGreat

namespace Go.Proofs.YtdhmnojnkgmmnaaGreat
open Go.Lg
set_option maxHeartbeats 3200000
set_option maxRecDepth 10000
set_option linter.unusedVariables false
set_option linter.unusedSimpArgs false

end Go.Proofs.YtdhmnojnkgmmnaaGreat

namespace Go.Proofs.YtdhmnojnkgmmnaaGreat
open Go.Lg
set_option maxHeartbeats 3200000
set_option maxRecDepth 10000
set_option linter.unusedVariables false
set_option linter.unusedSimpArgs false

end Go.Proofs.YtdhmnojnkgmmnaaGreat

namespace Go.Proofs.YtdhmnojnkgmmnaaGreat
open Go.Lg
set_option maxHeartbeats 3200000
set_option maxRecDepth 10000
set_option linter.unusedVariables false
set_option linter.unusedSimpArgs false

end Go.Proofs.YtdhmnojnkgmmnaaGreat

namespace Go.Proofs.YtdhmnojnkgmmnaaGreat
open Go.Lg
set_option maxHeartbeats 3200000
set_option maxRecDepth 10000
set_option linter.unusedVariables false
set_option linter.unusedSimpArgs false

end Go.Proofs.YtdhmnojnkgmmnaaGreat

namespace Go.Proofs.YtdhmnojnkgmmnaaGreat
open Go.Lg
set_option maxHeartbeats 6400000
set_option maxRecDepth 10000
set_option linter.unusedVariables false
set_option linter.unusedSimpArgs false

end Go.Proofs.YtdhmnojnkgmmnaaGreat

namespace Go.Proofs.YtdhmnojnkgmmnaaGreat
open Go.Lg
set_option maxHeartbeats 1600000
set_option maxRecDepth 10000
set_option linter.unusedVariables false
set_option linter.unusedSimpArgs false

end Go.Proofs.YtdhmnojnkgmmnaaGreat

namespace Go.Proofs.YtdhmnojnkgmmnaaGreat
open Go.Lg Go.RowKit Go.ChangeShapes Go.WideShapes Go.Deep Go.Joins
set_option linter.unusedVariables false
set_option linter.unusedSimpArgs false
set_option maxRecDepth 100000

theorem list_of {α : Type} {lv : α → LV} {Q : α → Prop} : ∀ (xs : List LV), (∀ x ∈ xs, ∃ p, x = lv p ∧ Q p) → ∃ ps : List α, xs = ps.map lv ∧ ∀ p ∈ ps, Q p
  | [], _ => ⟨[], rfl, by simp⟩
  | x :: xs, h => by
    obtain ⟨p, rfl, hp⟩ := h x (by simp)
    obtain ⟨ps, rfl, hps⟩ := list_of xs fun y hy => h y (by simp [hy])
    exact ⟨p :: ps, rfl, List.forall_mem_cons.2 ⟨hp, hps⟩⟩

section
variable {H : Type} {enc : TypeId × Value → H} {w : World}
end
end Go.Proofs.YtdhmnojnkgmmnaaGreat


namespace Go.Proofs.YtdhmnojnkgmmnaaGreat
open Go.Lg
set_option maxRecDepth 10000
set_option linter.unusedVariables false
set_option linter.unusedSimpArgs false

/-! ### A family, out of an argument's shape -/
abbrev shPer : Sh := .st [.str, .int .i64, .int .i64, .int .i64, .int .i64, .int .i64]
abbrev shUni : Sh := .st [.int .i64, .int .i64, .int .i64, .int .i64]
abbrev shFam : Sh := .st [.sl (.st [.str, .int .i64, .int .i64, .int .i64, .int .i64, .int .i64]), .sl (.st [.int .i64, .int .i64, .int .i64, .int .i64])]
theorem per_of_sh {x : LV} (h : hasSh shPer x) : ∃ p : Per, x = p.lv ∧ p.name.size ≤ maxLen := by
  simp only [hasSh] at h
  obtain ⟨xs, rfl, h⟩ := h
  match xs, h with
  | [a, b, c, d, e, f], h =>
    simp only [hasShs, hasSh] at h
    obtain ⟨⟨s, rfl, hs⟩, ⟨n1, rfl⟩, ⟨n2, rfl⟩, ⟨n3, rfl⟩, ⟨n4, rfl⟩, ⟨n5, rfl⟩, _⟩ := h
    exact ⟨⟨s, n1, n2, n3, n4, n5⟩, rfl, hs⟩
  | [], h => simp [hasShs] at h
  | [_], h => simp [hasShs] at h
  | [_, _], h => simp [hasShs] at h
  | [_, _, _], h => simp [hasShs] at h
  | [_, _, _, _], h => simp [hasShs] at h
  | [_, _, _, _, _], h => simp [hasShs] at h
  | _ :: _ :: _ :: _ :: _ :: _ :: _ :: _, h => simp [hasShs] at h
theorem uni_of_sh {x : LV} (h : hasSh shUni x) : ∃ u : Uni, x = u.lv ∧ True := by
  simp only [hasSh] at h
  obtain ⟨xs, rfl, h⟩ := h
  match xs, h with
  | [a, b, c, d], h =>
    simp only [hasShs, hasSh] at h
    obtain ⟨⟨n1, rfl⟩, ⟨n2, rfl⟩, ⟨n3, rfl⟩, ⟨n4, rfl⟩, _⟩ := h
    exact ⟨⟨n1, n2, n3, n4⟩, rfl, trivial⟩
  | [], h => simp [hasShs] at h
  | [_], h => simp [hasShs] at h
  | [_, _], h => simp [hasShs] at h
  | [_, _, _], h => simp [hasShs] at h
  | _ :: _ :: _ :: _ :: _ :: _, h => simp [hasShs] at h
theorem fam_of_sh {x : LV} (h : hasSh shFam x) : ∃ (ps : List Per) (us : List Uni), x = famLV ps us ∧ FamOK ps us := by
  simp only [hasSh] at h
  obtain ⟨xs, rfl, h⟩ := h
  match xs, h with
  | [a, b], h =>
    simp only [hasShs, hasSh] at h
    obtain ⟨⟨ys, rfl, hl, hy⟩, ⟨zs, rfl, hm, hz⟩, _⟩ := h
    obtain ⟨ps, rfl, hps⟩ := list_of (lv := Per.lv) (Q := fun p => p.name.size ≤ maxLen) ys fun y hy' => per_of_sh (by simp only [hasSh]; exact hy y hy')
    obtain ⟨us, rfl, _⟩ := list_of (lv := Uni.lv) (Q := fun _ => True) zs fun y hy' => uni_of_sh (by simp only [hasSh]; exact hz y hy')
    exact ⟨ps, us, rfl, ⟨by simpa using hl, by simpa using hm, hps⟩⟩
  | [], h => simp [hasShs] at h
  | [_], h => simp [hasShs] at h
  | _ :: _ :: _ :: _, h => simp [hasShs] at h
end Go.Proofs.YtdhmnojnkgmmnaaGreat


namespace Go.Proofs.YtdhmnojnkgmmnaaGreat
open Go.Lg
set_option maxHeartbeats 3200000
set_option maxRecDepth 10000
set_option linter.unusedVariables false
set_option linter.unusedSimpArgs false

theorem intsZ_f {f : FuncId} {args : List LV} {xs : List Int} (h : HSpec env.P f args [] (.hs 0 (xs.map intLV).length) [.arr 3 1 (xs.map intLV)]) : FSpec env.P f args (rowOw xs) :=
  FSpec_of_HSpec h (by unfold rowOw; simp [exW])
theorem law_relativesOf (ps : List Per) (us : List Uni) (p e : Int) (ss : List Pr) (hf : FamOK ps us) (hl : ss.length ≤ Go.maxLen) : FSpec env.P 3 [famLV ps us, .int .i64 p, typLV e ss] (.bool true) := by
  refine FSpec_of_code (E := env.x [8, 9, 10, 14, 15, 16] 0) env_ok.x (fn := Tryz.f3) Tryz.func3 rfl Tryz.call3 _ _ ?_
  have hI := relatives_impl ps us p e ss
  have hS := intsZ_f (relatives_spec ps us p e ss hl)
  have hJ := intsZ_f hI
  have hN : (relvL ps us p e ss).length ≤ 1048576 := by
    unfold relvL
    cases h : hasP ps us p
    · simp
    · have hl := (famOk_parts (hasP_lt h).2.2).1
      cases typB e ss
      · simp
      · exact Nat.le_trans (listedTo_len _ _) (by omega)
  generalize relvL ps us p e ss = R at hI hS hJ hN
  ((repeat ((conv => whnf); first | refine brT ?_ | refine brF ?_)); conv => whnf)
  refine ⟨_, szFamily_spec ps us _, ?_⟩
  ((repeat ((conv => whnf); first | refine brT ?_ | refine brF ?_)); conv => whnf)
  (refine ⟨fun h => ?_, fun h => ?_⟩ <;> rw [h])
  · ((repeat ((conv => whnf); first | refine brT ?_ | refine brF ?_)); conv => whnf); exact fin rfl
  rw [ltI_f] at h
  obtain ⟨p1, u1, s1⟩ := szFam_ok (by omega) (by omega) hf h
  ((repeat ((conv => whnf); first | refine brT ?_ | refine brF ?_)); conv => whnf)
  refine ⟨_, szKinType_spec e ss _, ?_⟩
  ((repeat ((conv => whnf); first | refine brT ?_ | refine brF ?_)); conv => whnf)
  (refine ⟨fun h3 => ?_, fun h3 => ?_⟩ <;> rw [h3])
  · ((repeat ((conv => whnf); first | refine brT ?_ | refine brF ?_)); conv => whnf); exact fin rfl
  rw [ltI_f] at h3
  obtain ⟨-, t1, -, hb, -⟩ := szT_ok (l := szFam 1048576 ps us) (by omega) (by omega) hl h3
  ((repeat ((conv => whnf); first | refine brT ?_ | refine brF ?_)); conv => whnf)
  refine ⟨true, by kernel_rfl, ?_⟩
  ((repeat ((conv => whnf); first | refine brT ?_ | refine brF ?_)); conv => whnf)
  refine ⟨_, toFamily_spec ps us p1 u1, ?_⟩
  ((repeat ((conv => whnf); first | refine brT ?_ | refine brF ?_)); conv => whnf)
  refine ⟨_, toKinType_f e ss hb, ?_⟩
  ((repeat ((conv => whnf); first | refine brT ?_ | refine brF ?_)); conv => whnf)
  refine ⟨_, hS, ?_⟩
  rw [show flatT (rowOw R) = true from flat_ints R]
  ((repeat ((conv => whnf); first | refine brT ?_ | refine brF ?_)); conv => whnf)
  refine ⟨[], _, _, _, _, toFamily_hm ps us p1 u1, rfl, rfl, rfl, trivial, ?_⟩
  ((repeat ((conv => whnf); first | refine brT ?_ | refine brF ?_)); conv => whnf)
  refine ⟨[], _, _, _, _, toKinType_h e ss hb, rfl, rfl, rfl, trivial, ?_⟩
  ((repeat ((conv => whnf); first | refine brT ?_ | refine brF ?_)); conv => whnf)
  refine ⟨[], _, _, _, _, hI, rfl, ?_⟩
  ((repeat ((conv => whnf); first | refine brT ?_ | refine brF ?_)); conv => whnf)
  refine ⟨rfl, ?_⟩
  ((repeat ((conv => whnf); first | refine brT ?_ | refine brF ?_)); conv => whnf)
  refine ⟨rfl, ?_⟩
  ((repeat ((conv => whnf); first | refine brT ?_ | refine brF ?_)); conv => whnf)
  refine ⟨rfl, ?_⟩
  ((repeat ((conv => whnf); first | refine brT ?_ | refine brF ?_)); conv => whnf)
  refine ⟨rfl, rfl, ⟨rfl, flats_ints _, trivial⟩, ?_⟩
  ((repeat ((conv => whnf); first | refine brT ?_ | refine brF ?_)); conv => whnf)
  refine ⟨rfl, ?_⟩
  ((repeat ((conv => whnf); first | refine brT ?_ | refine brF ?_)); conv => whnf)
  refine ⟨_, eqIntS_spec R R, ?_⟩
  rw [eqIntS_refl]
  ((repeat ((conv => whnf); first | refine brT ?_ | refine brF ?_)); conv => whnf)
  rw [show notB true = false by simp [notB]]
  ((repeat ((conv => whnf); first | refine brT ?_ | refine brF ?_)); conv => whnf)
  refine ⟨true, by kernel_rfl, ?_⟩
  ((repeat ((conv => whnf); first | refine brT ?_ | refine brF ?_)); conv => whnf)
  refine ⟨_, toFamily_spec ps us p1 u1, ?_⟩
  ((repeat ((conv => whnf); first | refine brT ?_ | refine brF ?_)); conv => whnf)
  refine ⟨rfl, ?_⟩
  ((repeat ((conv => whnf); first | refine brT ?_ | refine brF ?_)); conv => whnf)
  refine ⟨rfl, ?_⟩
  ((repeat ((conv => whnf); first | refine brT ?_ | refine brF ?_)); conv => whnf)
  refine ⟨_, eqFamily_spec ps ps us us, ?_⟩
  rw [eqFam_refl]
  ((repeat ((conv => whnf); first | refine brT ?_ | refine brF ?_)); conv => whnf)
  rw [show notB true = false by simp [notB]]
  ((repeat ((conv => whnf); first | refine brT ?_ | refine brF ?_)); conv => whnf)
  refine ⟨true, by kernel_rfl, ?_⟩
  ((repeat ((conv => whnf); first | refine brT ?_ | refine brF ?_)); conv => whnf)
  refine ⟨_, toKinType_f e ss hb, ?_⟩
  ((repeat ((conv => whnf); first | refine brT ?_ | refine brF ?_)); conv => whnf)
  refine ⟨rfl, ?_⟩
  ((repeat ((conv => whnf); first | refine brT ?_ | refine brF ?_)); conv => whnf)
  refine ⟨_, eqKinType_spec e ss e ss, ?_⟩
  rw [eqTyp_refl]
  ((repeat ((conv => whnf); first | refine brT ?_ | refine brF ?_)); conv => whnf)
  rw [show notB true = false by simp [notB]]
  ((repeat ((conv => whnf); first | refine brT ?_ | refine brF ?_)); conv => whnf)
  refine ⟨[2, 3], _, _, _, _, markFamily_hm ps us 1 (by omega), rfl, rfl, rfl, trivial, ?_⟩
  ((repeat ((conv => whnf); first | refine brT ?_ | refine brF ?_)); conv => whnf)
  refine ⟨[5], _, _, _, _, markKinType_spec e ss _ rfl (1 + 6 * ps.length + 4 * us.length) (by omega), rfl, rfl, rfl, trivial, ?_⟩
  ((repeat ((conv => whnf); first | refine brT ?_ | refine brF ?_)); conv => whnf)
  rw [show ltI ((1 + 6 * ps.length + 4 * us.length + 2 * ss.length : Nat) : Int) 0 = false by rw [ltI_f]; omega]
  ((repeat ((conv => whnf); first | refine brT ?_ | refine brF ?_)); conv => whnf)
  refine ⟨rfl, ?_⟩
  ((repeat ((conv => whnf); first | refine brT ?_ | refine brF ?_)); conv => whnf)
  refine ⟨_, eqIntS_spec R R, ?_⟩
  rw [eqIntS_refl]
  ((repeat ((conv => whnf); first | refine brT ?_ | refine brF ?_)); conv => whnf)
  rw [show notB true = false by simp [notB]]
  ((repeat ((conv => whnf); first | refine brT ?_ | refine brF ?_)); conv => whnf)
  refine ⟨[7], _, _, _, _, markIntS_spec R _ rfl 1 (by omega) (by omega), rfl, rfl, rfl, trivial, ?_⟩
  ((repeat ((conv => whnf); first | refine brT ?_ | refine brF ?_)); conv => whnf)
  refine ⟨by simp [marks_len], ?_⟩
  ((repeat ((conv => whnf); first | refine brT ?_ | refine brF ?_)); conv => whnf)
  refine ⟨_, heldIntS_spec 1 R.length (by omega) (by omega), ?_⟩
  ((repeat ((conv => whnf); first | refine brT ?_ | refine brF ?_)); conv => whnf)
  rw [show ltI (1 + (R.length : Int)) 0 = false by rw [ltI_f]; omega]
  ((repeat ((conv => whnf); first | refine brT ?_ | refine brF ?_)); conv => whnf)
  rw [show notB (eqI (1 + (R.length : Int)) (1 + (R.length : Int))) = false by simp [notB, eqI_refl]]
  ((repeat ((conv => whnf); first | refine brT ?_ | refine brF ?_)); conv => whnf)
  refine ⟨true, by kernel_rfl, ?_⟩
  ((repeat ((conv => whnf); first | refine brT ?_ | refine brF ?_)); conv => whnf)
  refine ⟨_, toFamily_spec ps us p1 u1, ?_⟩
  ((repeat ((conv => whnf); first | refine brT ?_ | refine brF ?_)); conv => whnf)
  refine ⟨_, toKinType_f e ss hb, ?_⟩
  ((repeat ((conv => whnf); first | refine brT ?_ | refine brF ?_)); conv => whnf)
  refine ⟨_, hJ, ?_⟩
  rw [show flatT (rowOw R) = true from flat_ints R]
  ((repeat ((conv => whnf); first | refine brT ?_ | refine brF ?_)); conv => whnf)
  refine ⟨_, eqIntS_spec R R, ?_⟩
  rw [eqIntS_refl]
  ((repeat ((conv => whnf); first | refine brT ?_ | refine brF ?_)); conv => whnf)
  rw [show notB true = false by simp [notB]]
  ((repeat ((conv => whnf); first | refine brT ?_ | refine brF ?_)); conv => whnf)
  refine ⟨by simp [marks_len], ?_⟩
  ((repeat ((conv => whnf); first | refine brT ?_ | refine brF ?_)); conv => whnf)
  refine ⟨_, heldIntS_spec 1 R.length (by omega) (by omega), ?_⟩
  ((repeat ((conv => whnf); first | refine brT ?_ | refine brF ?_)); conv => whnf)
  rw [show ltI (1 + (R.length : Int)) 0 = false by rw [ltI_f]; omega]
  ((repeat ((conv => whnf); first | refine brT ?_ | refine brF ?_)); conv => whnf)
  rw [show notB (eqI (1 + (R.length : Int)) (1 + (R.length : Int))) = false by simp [notB, eqI_refl]]
  ((repeat ((conv => whnf); first | refine brT ?_ | refine brF ?_)); conv => whnf)
  exact fin rfl
end Go.Proofs.YtdhmnojnkgmmnaaGreat

