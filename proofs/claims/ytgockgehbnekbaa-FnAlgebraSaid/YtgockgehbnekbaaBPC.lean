/- Contracts of functions of the program and of its model, told over readings. -/
import Derived.Test.YtgockgehbnekbaaBPB
import Derived.Test.YtgockgehbnekbaaBLgMF
import Derived.Test.YtgockgehbnekbaaBPA
import Derived.Test.YtgockgehbnekbaaBLgWS
namespace Go.Proofs.Ytgockgehbnekbaa
open Go.Lg
set_option maxHeartbeats 1600000
set_option maxRecDepth 10000
set_option linter.unusedVariables false
set_option linter.unusedSimpArgs false

/-! ### Composition -/
/-- What is reached from a set over the rows of Q. -/
def onP (N : Nat) (p : Nat → Bool) (Q : Nat → Nat → Bool) : Nat → Bool := fun c => decide (∃ b, b < N ∧ p b = true ∧ Q b c = true)
def compP (N : Nat) (P Q : Nat → Nat → Bool) : Nat → Nat → Bool := fun a c => onP N (P a) Q c
def inTake (r : List Int) (i : Nat) : Nat → Bool := fun b => decide ((b : Int) ∈ r.take i)
theorem onP_succ {N : Nat} {r : List Int} {i b : Nat} {Q : Nat → Nat → Bool} (hi : i < r.length) (hb : r[i] = (b : Int)) (hbN : b < N) : (fun c => onP N (inTake r i) Q c || Q b c) = onP N (inTake r (i + 1)) Q := by
  funext c
  unfold onP inTake
  rw [List.take_succ_eq_append_getElem hi]
  rw [Bool.eq_iff_iff]
  simp only [Bool.or_eq_true, decide_eq_true_eq, List.mem_append, List.mem_singleton, hb]
  constructor
  · rintro (⟨b', h1, h2, h3⟩ | h)
    · exact ⟨b', h1, .inl h2, h3⟩
    · exact ⟨b, hbN, .inr rfl, h⟩
  · rintro ⟨b', h1, h2 | h2, h3⟩
    · exact .inl ⟨b', h1, h2, h3⟩
    · have : b' = b := by omega
      subst this; exact .inr h3
theorem onP_zero {N : Nat} {r : List Int} {Q : Nat → Nat → Bool} : onP N (inTake r 0) Q = fun _ => false := by funext c; simp [onP, inTake]

theorem compose1_spec (N : Nat) (Q : Nat → Nat → Bool) (hN : N ≤ 40) (row : List Int) (hr : ∀ b ∈ row, 0 ≤ b ∧ b < N) (hm : row.length ≤ Go.maxLen) :
    FSpec env.P 138 [rowSl row, .ref (.sl ((setsP N Q).map uLV))] (uLV (bitsP N (onP N (inTake row row.length) Q))) := by
  refine FSpec_of_code env_ok (fn := Try.f138) Try.func138 rfl Try.call138 _ _ ?_
  ((repeat ((conv => whnf); first | refine brT ?_ | refine brF ?_)); conv => whnf)
  intro _
  rw [List.length_map]
  ((repeat ((conv => whnf); first | refine brT ?_ | refine brF ?_)); conv => whnf)
  refine loop_rule (α := Nat) (fun k => [(9, .int .i64 (k : Int)), (4, uLV (bitsP N (onP N (inTake row k) Q)))]) (fun _ => []) (fun k => row.length - k) (fun k => k ≤ row.length) 0 (Nat.zero_le _) ?_ ?_
  · refine ⟨?_, trivial, rfl, rfl⟩
    have e0 : LV.int .u64 0 = uLV (bitsP N (onP N (inTake row 0) Q)) := by rw [onP_zero]; rw [show bitsP N (fun _ => false) = 0 from (bits_ext fun i => by simp).symm]; rfl
    ((repeat ((conv => whnf); first | refine ⟨e0, ?_⟩ | refine ⟨rfl, ?_⟩)); trivial)
  intro k hk
  ((repeat ((conv => whnf); first | refine brT ?_ | refine brF ?_)); conv => whnf)
  (refine ⟨fun h1 => ?_, fun h1 => ?_⟩ <;> rw [h1])
  · have hlt : k < row.length := by rw [ltI_t] at h1; omega
    have e := step_i hlt hm
    have hb := hr row[k] (List.getElem_mem hlt)
    obtain ⟨b, hb'⟩ : ∃ b : Nat, row[k] = (b : Int) := ⟨row[k].toNat, by omega⟩
    have hbN : b < N := by omega
    have e2 : LV.int .u64 (Go.Lg.orI .u64 ((bitsP N (onP N (inTake row k) Q) : Nat) : Int) ((bitsP N (Q b) : Nat) : Int)) = uLV (bitsP N (onP N (inTake row (k + 1)) Q)) := by
      rw [orI_nat (bitsP_64 _ (by omega)) (bitsP_64 _ (by omega)), bitsP_or, onP_succ hlt hb' hbN]; rfl
    ((repeat ((conv => whnf); first | refine brT ?_ | refine brF ?_)); conv => whnf)
    refine ⟨k, intLV row[k], rfl, by simp [hlt], rfl, ?_⟩
    rw [hb']
    ((repeat ((conv => whnf); first | refine brT ?_ | refine brF ?_)); conv => whnf)
    refine ⟨b, uLV (bitsP N (Q b)), rfl, by rw [List.getElem?_map, setsP_get hbN]; rfl, rfl, ?_⟩
    ((repeat ((conv => whnf); first | refine brT ?_ | refine brF ?_)); conv => whnf)
    refine round_end (k + 1) hlt (by omega) ⟨?_, trivial, rfl, rfl⟩
    repeat ((conv => whnf); first | refine ⟨e, ?_⟩ | refine ⟨e2, ?_⟩ | refine ⟨rfl, ?_⟩)
    trivial
  · have h3 : k = row.length := by rw [ltI_f] at h1; omega
    subst h3
    ((repeat ((conv => whnf); first | refine brT ?_ | refine brF ?_)); conv => whnf)
    exact ⟨rfl, rfl, List.nodup_nil⟩

/-- mapEach of a closure that captured one place -/
theorem mapRows_f (F : Nat) (S : LV) (rows : List (List Int)) (g : List Int → Nat) (hF : ∀ r ∈ rows, FSpec env.P F [rowSl r, .ref S] (uLV (g r))) (hb : 8 * rows.length ≤ 281474976710656) :
    FSpec env.P 137 [.sl (rows.map rowSl), .clos F [.ref S]] (.own 139 1 (rows.map fun r => uLV (g r))) := by
  refine FSpec_of_code env_ok (fn := Try.f137) Try.func137 rfl Try.call137 _ _ ?_
  ((repeat ((conv => whnf); first | refine brT ?_ | refine brF ?_)); conv => whnf)
  intro hp
  have hp' : rows.length ≤ Go.maxLen := by simpa using hp
  ((repeat ((conv => whnf); first | refine brT ?_ | refine brF ?_)); conv => whnf)
  refine ⟨rows.length, by simp, by simp, hb, hp', rfl, by decide, ?_⟩
  ((repeat ((conv => whnf); first | refine brT ?_ | refine brF ?_)); conv => whnf)
  intro _
  ((repeat ((conv => whnf); first | refine brT ?_ | refine brF ?_)); conv => whnf)
  refine loop_rule (α := Nat) (fun k => [(13, .int .i64 (k : Int))]) (fun k => [.arr 139 1 (fillLV (fun r => uLV (g r)) (uLV 0) rows k)]) (fun k => rows.length - k) (fun k => k ≤ rows.length) 0 (Nat.zero_le _) ?_ ?_
  · refine ⟨?_, ⟨by simp [fillLV, uLV], trivial⟩, rfl, rfl⟩
    ((repeat ((conv => whnf); refine ⟨rfl, ?_⟩)); trivial)
  rintro k hk
  ((repeat ((conv => whnf); first | refine brT ?_ | refine brF ?_)); conv => whnf)
  (refine ⟨fun h1 => ?_, fun h1 => ?_⟩ <;> rw [h1])
  · have hlt : k < rows.length := by rw [ltI_t] at h1; simp at h1; omega
    ((repeat ((conv => whnf); first | refine brT ?_ | refine brF ?_)); conv => whnf)
    refine ⟨k, rowSl rows[k], rfl, by simp [hlt], rfl, ?_⟩
    ((repeat ((conv => whnf); first | refine brT ?_ | refine brF ?_)); conv => whnf)
    refine ⟨_, hF rows[k] (List.getElem_mem hlt), ?_⟩
    ((repeat ((conv => whnf); first | refine brT ?_ | refine brF ?_)); conv => whnf)
    refine ⟨(fill_len hk).symm, rfl, k, rfl, by rw [fill_len hk]; exact hlt, ?_⟩
    ((repeat ((conv => whnf); first | refine brT ?_ | refine brF ?_)); conv => whnf)
    refine ⟨(fill_len hk).symm, k, [], uLV 0, rfl, by simp [getP, fill_get hlt], rfl, rfl, rfl, fillLV (fun r => uLV (g r)) (uLV 0) rows (k + 1), by rw [fill_get hlt]; exact fill_set hlt, ?_⟩
    ((repeat ((conv => whnf); first | refine brT ?_ | refine brF ?_)); conv => whnf)
    refine round_end (k + 1) hlt (by omega) ⟨?_, ⟨rfl, trivial⟩, rfl, rfl⟩
    have e := step_i hlt hp'
    ((repeat ((conv => whnf); first | refine ⟨e, ?_⟩ | refine ⟨rfl, ?_⟩)); trivial)
  · have h4 : k = rows.length := by rw [ltI_f] at h1; simp at h1; omega
    subst h4
    ((repeat ((conv => whnf); first | refine brT ?_ | refine brF ?_)); conv => whnf)
    exact ⟨(fill_len (Nat.le_refl _)).symm, rfl, rfl, fill_all, by simp⟩

theorem comp_rows {n : Int} {rows : List (List Int)} (hr : RelIn n rows) (Q : Nat → Nat → Bool) : (rows.map fun r => bitsP rows.length (onP rows.length (inTake r r.length) Q)) = setsP rows.length (compP rows.length (relP rows) Q) := by
  apply List.ext_getElem
  · simp [setsP]
  · intro a h1 h2
    have ha : a < rows.length := by simpa using h1
    simp only [List.getElem_map, setsP, List.getElem_range]
    congr 1
    funext c
    unfold compP onP inTake relP
    have : rows.getD a [] = rows[a] := by simp [List.getD_eq_getElem?_getD, ha]
    rw [this, List.take_length]

theorem implCompose_h (n : Int) (rows : List (List Int)) (m : Int) (rows' : List (List Int)) :
    HSpec env.P 60 [relLV n rows, relLV m rows'] [] (relHS (rsN (alike n rows m rows') rows) 0 ((relRows (rsN (alike n rows m rows') rows) (compP rows.length (relP rows) (relP rows'))).map rowOw).length)
      [.tree 92 1 ((relRows (rsN (alike n rows m rows') rows) (compP rows.length (relP rows) (relP rows'))).map rowOw)] := by
  refine HSpec_of_code (E := env.x [136, 107] 0) env_ok.x (fn := Try.f60) Try.func60 rfl Try.call60 _ _ _ _ ?_
  ((repeat ((conv => whnf); first | refine brT ?_ | refine brF ?_)); conv => whnf)
  refine ⟨_, areAlike_spec n rows m rows', ?_⟩
  ((repeat ((conv => whnf); first | refine brT ?_ | refine brF ?_)); conv => whnf)
  (refine ⟨fun h => ?_, fun h => ?_⟩ <;> rw [h])
  · rw [notB_t] at h
    rw [h]
    ((repeat ((conv => whnf); first | refine brT ?_ | refine brF ?_)); conv => whnf)
    exact ⟨[relHS 0 0 0], rfl, rfl, .nl [.tmp 0 [1] true 92 1] [.old 3] ⟨⟨rfl, rfl, trivial⟩, ⟨rfl, rfl, trivial⟩, rfl⟩⟩
  rw [notB_f] at h
  rw [h, show rsN true rows = rows.length from rfl]
  obtain ⟨hr, hs, rfl, hl⟩ := alike_in h
  have hN := hr.size
  have hq := setsOf_P n rows' hs
  rw [hl] at hq
  ((repeat ((conv => whnf); first | refine brT ?_ | refine brF ?_)); conv => whnf)
  refine ⟨[], _, _, _, _, hq, rfl, rfl, rfl, trivial, ?_⟩
  ((repeat ((conv => whnf); first | refine brT ?_ | refine brF ?_)); conv => whnf)
  refine ⟨rfl, ?_⟩
  ((repeat ((conv => whnf); first | refine brT ?_ | refine brF ?_)); conv => whnf)
  have hf := mapRows_f 138 (.sl ((setsP rows.length (relP rows')).map uLV)) rows (fun r => bitsP rows.length (onP rows.length (inTake r r.length) (relP rows')))
    (fun r hx => compose1_spec rows.length (relP rows') hN r (fun b hb => by have := hr.mem hx hb; have := hr.len; omega) (by have := hr.rlen hx; unfold Go.maxLen; omega)) (by omega)
  have e : (rows.map fun r => uLV (bitsP rows.length (onP rows.length (inTake r r.length) (relP rows')))) = (setsP rows.length (compP rows.length (relP rows) (relP rows'))).map uLV := by
    rw [← comp_rows hr, List.map_map]; rfl
  rw [e] at hf
  refine ⟨_, hf, ?_⟩
  have hflat : flatT (LV.own 139 1 ((setsP rows.length (compP rows.length (relP rows) (relP rows'))).map uLV)) = true := by
    simp only [flatT, flatB]
    generalize setsP rows.length (compP rows.length (relP rows) (relP rows')) = l
    induction l with
    | nil => rfl
    | cons x xs ih => simp only [List.map_cons, flatsB, ih]; rfl
  rw [hflat]
  ((repeat ((conv => whnf); first | refine brT ?_ | refine brF ?_)); conv => whnf)
  refine ⟨[], _, _, _, _, relationOfSets_P rows.length (compP rows.length (relP rows) (relP rows')) hN, rfl, rfl, rfl, trivial, ?_⟩
  ((repeat ((conv => whnf); first | refine brT ?_ | refine brF ?_)); conv => whnf)
  refine ⟨[relHS rows.length 0 ((relRows rows.length (compP rows.length (relP rows) (relP rows'))).map rowOw).length], rfl, rfl, .inr ⟨[.old 5], ⟨rfl, rfl, trivial⟩, ⟨rfl, rfl, trivial⟩, rfl⟩⟩
end Go.Proofs.Ytgockgehbnekbaa

namespace Go.Proofs.Ytgockgehbnekbaa
open Go.Lg
set_option maxHeartbeats 1600000
set_option maxRecDepth 10000
set_option linter.unusedVariables false
set_option linter.unusedSimpArgs false

theorem lines_get {N a : Nat} {P : Nat → Nat → Bool} (h : a < N) : ((gridP N P).map lineOw)[a]? = some (lineOw (lineP N P a)) := by rw [List.getElem?_map, gridP_get h]; rfl
theorem linesS_get {N a : Nat} {P : Nat → Nat → Bool} (h : a < N) : ((gridP N P).map lineSl)[a]? = some (lineSl (lineP N P a)) := by rw [List.getElem?_map, gridP_get h]; rfl
theorem cell_get {N a b : Nat} {P : Nat → Nat → Bool} (h : b < N) : ((lineP N P a).map bLV)[b]? = some (.bool (P a b)) := by rw [List.getElem?_map, lineP_get h]; rfl
theorem lines_len {N : Nat} {P : Nat → Nat → Bool} : ((gridP N P).map lineOw).length = N := by rw [List.length_map, gridP_len]
theorem linesS_len {N : Nat} {P : Nat → Nat → Bool} : ((gridP N P).map lineSl).length = N := by rw [List.length_map, gridP_len]
theorem cells_len {N a : Nat} {P : Nat → Nat → Bool} : ((lineP N P a).map bLV).length = N := by rw [List.length_map, lineP_len]
theorem lines_put {N a b : Nat} {P : Nat → Nat → Bool} {v : Bool} : ((gridP N P).map lineOw).set a (lineOw (lineP N (putP P a b v) a)) = (gridP N (putP P a b v)).map lineOw := by rw [← gridP_put, List.map_set]
theorem lines_same {N a : Nat} {P : Nat → Nat → Bool} : ((gridP N P).map lineOw).set a (lineOw (lineP N P a)) = (gridP N P).map lineOw := by
  apply List.ext_getElem?
  intro i
  rw [List.getElem?_set]
  split
  · rename_i e; subst e
    split
    · rename_i h; rw [lines_len] at h; rw [lines_get h]
    · rename_i h; rw [List.getElem?_eq_none (by omega)]
  · rfl
theorem cells_put {N a b : Nat} {P : Nat → Nat → Bool} {v : Bool} : ((lineP N P a).map bLV).set b (.bool v) = (lineP N (putP P a b v) a).map bLV := by
  rw [← lineP_put, List.map_set]; rfl

theorem l2Blank_P (N : Nat) (hN : N ≤ 40) : HSpec env.P 163 [.int .i64 (N : Int)] [] (.hs 0 N) [.tree 133 1 ((gridP N fun _ _ => false).map lineOw)] := by
  have h := l2Blank_h N hN
  rw [blank_gridP, lines_len] at h
  exact h
theorem l2Grid_P (n : Int) (rows : List (List Int)) (hr : RelIn n rows) : HSpec env.P 145 [relLV n rows] [] (.hs 0 rows.length) [.tree 133 1 ((gridP rows.length (relP rows)).map lineOw)] := by
  obtain rfl : n = (rows.length : Int) := by have := hr.len; omega
  have h := l2Grid_h rows hr
  rw [gridL_P, lines_len] at h
  exact h
theorem l2Of_P (N : Nat) (P : Nat → Nat → Bool) (hN : N ≤ 40) : HSpec env.P 102 [.sl ((gridP N P).map lineSl)] [] (relHS N 0 ((relRows N P).map rowOw).length) [.tree 92 1 ((relRows N P).map rowOw)] := by
  have h := l2Of_h (gridP N P) (by rw [gridP_len]; exact hN) (fun l hl => by
    unfold gridP at hl
    obtain ⟨a, _, rfl⟩ := List.mem_map.1 hl
    simp; exact hN)
  rw [gridP_len, gridP_rows] at h
  exact h

end Go.Proofs.Ytgockgehbnekbaa
namespace Go.Proofs.Ytgockgehbnekbaa
open Go.Lg
set_option maxHeartbeats 1600000
set_option maxRecDepth 10000
set_option linter.unusedVariables false
set_option linter.unusedSimpArgs false

/-! ### Composition place by place -/
def cellC (P Q : Nat → Nat → Bool) (a b c : Nat) (R : Nat → Nat → Bool) : Nat → Nat → Bool := match P a b && Q b c with | true => putP R a c true | false => R
def compR (N : Nat) (P Q : Nat → Nat → Bool) : Nat → Nat → Bool := iter (fun a R => iter (fun b R => iter (cellC P Q a b) N R) N R) N (fun _ _ => false)
theorem iter_cellC (P Q R : Nat → Nat → Bool) (a b : Nat) : ∀ i, iter (cellC P Q a b) i R = fun x y => R x y || (decide (x = a ∧ y < i) && (P a b && Q b y))
  | 0 => by funext x y; simp [iter]
  | i + 1 => by
    simp only [iter]
    rw [iter_cellC P Q R a b i]
    funext x y
    unfold cellC
    cases h : (P a b && Q b i)
    · show (R x y || (decide (x = a ∧ y < i) && (P a b && Q b y))) = _
      congr 1
      by_cases e : x = a ∧ y = i
      · obtain ⟨rfl, rfl⟩ := e; simp only [h]; simp
      · have : (x = a ∧ y < i + 1) ↔ (x = a ∧ y < i) := by
          constructor
          · rintro ⟨h1, h2⟩; exact ⟨h1, by rcases Nat.lt_or_ge y i with h | h; exact h; exact absurd ⟨h1, by omega⟩ e⟩
          · rintro ⟨h1, h2⟩; exact ⟨h1, by omega⟩
        simp only [this]
    · show (if x = a ∧ y = i then true else (R x y || (decide (x = a ∧ y < i) && (P a b && Q b y)))) = _
      by_cases e : x = a ∧ y = i
      · obtain ⟨rfl, rfl⟩ := e; rw [if_pos ⟨rfl, rfl⟩, h]; simp
      · rw [if_neg e]
        have : (x = a ∧ y < i + 1) ↔ (x = a ∧ y < i) := by
          constructor
          · rintro ⟨h1, h2⟩; exact ⟨h1, by rcases Nat.lt_or_ge y i with h | h; exact h; exact absurd ⟨h1, by omega⟩ e⟩
          · rintro ⟨h1, h2⟩; exact ⟨h1, by omega⟩
        simp only [this]
theorem iter_cellB (N : Nat) (P Q R : Nat → Nat → Bool) (a : Nat) : ∀ j, iter (fun b R => iter (cellC P Q a b) N R) j R = fun x y => R x y || (decide (x = a ∧ y < N) && decide (∃ b, b < j ∧ P a b = true ∧ Q b y = true))
  | 0 => by funext x y; simp [iter]
  | j + 1 => by
    simp only [iter]
    rw [iter_cellB N P Q R a j, iter_cellC]
    funext x y
    rw [Bool.or_assoc]
    congr 1
    rw [Bool.eq_iff_iff]
    simp only [Bool.or_eq_true, Bool.and_eq_true, decide_eq_true_eq]
    constructor
    · rintro (⟨h1, b, h2, h3⟩ | ⟨h1, h2⟩)
      · exact ⟨h1, b, by omega, h3⟩
      · exact ⟨h1, j, by omega, h2⟩
    · rintro ⟨h1, b, h2, h3⟩
      rcases Nat.lt_or_ge b j with h | h
      · exact .inl ⟨h1, b, h, h3⟩
      · have : b = j := by omega
        subst this; exact .inr ⟨h1, h3⟩
theorem iter_cellA (N : Nat) (P Q : Nat → Nat → Bool) : ∀ k, iter (fun a R => iter (fun b R => iter (cellC P Q a b) N R) N R) k (fun _ _ => false) = fun x y => decide (x < k ∧ y < N) && compP N P Q x y
  | 0 => by funext x y; simp [iter]
  | k + 1 => by
    simp only [iter]
    rw [iter_cellA N P Q k, iter_cellB]
    funext x y
    unfold compP onP
    rw [Bool.eq_iff_iff]
    simp only [Bool.or_eq_true, Bool.and_eq_true, decide_eq_true_eq]
    constructor
    · rintro (⟨⟨h1, h2⟩, h3⟩ | ⟨⟨rfl, h2⟩, h3⟩)
      · exact ⟨⟨by omega, h2⟩, h3⟩
      · exact ⟨⟨by omega, h2⟩, h3⟩
    · rintro ⟨⟨h1, h2⟩, h3⟩
      rcases Nat.lt_or_ge x k with h | h
      · exact .inl ⟨⟨h, h2⟩, h3⟩
      · have : x = k := by omega
        subst this; exact .inr ⟨⟨rfl, h2⟩, h3⟩
theorem compR_rows (N : Nat) (P Q : Nat → Nat → Bool) : gridP N (compR N P Q) = gridP N (compP N P Q) := gridP_ext fun a ha b hb => by
  unfold compR
  rw [iter_cellA]
  simp [ha, hb]

theorem l2Grid_f (n : Int) (rows : List (List Int)) (hr : RelIn n rows) : FSpec env.P 145 [relLV n rows] (.own 133 1 ((gridP rows.length (relP rows)).map lineSl)) := by
  have h := FSpec_of_tree (r := .own 133 1 ((gridP rows.length (relP rows)).map lineSl)) (l2Grid_P n rows hr) (by
    simp only [exW]
    exact ⟨by rw [dms_lines, linesS_len], rfl, rfl, dms_lines _, by simp⟩)
  exact h
theorem l2Of_f (N : Nat) (P : Nat → Nat → Bool) (hN : N ≤ 40) : FSpec env.P 102 [.sl ((gridP N P).map lineSl)] (.st [.int .i64 (N : Int), .own 92 1 ((relRows N P).map rowSl)]) := by
  exact FSpec_of_tree (l2Of_P N P hN) (by
    simp only [relHS, exW, exsW]
    exact ⟨trivial, trivial, by rw [dms_rows]; simp, rfl, rfl, dms_rows _, by simp⟩)

end Go.Proofs.Ytgockgehbnekbaa
namespace Go.Proofs.Ytgockgehbnekbaa
open Go.Lg
set_option maxHeartbeats 1600000
set_option maxRecDepth 10000
set_option linter.unusedVariables false
set_option linter.unusedSimpArgs false

/-- Combined place by place: those before (k, i) are done. -/
def mxP (f : Bool → Bool → Bool) (P Q : Nat → Nat → Bool) (k i : Nat) : Nat → Nat → Bool := fun a b => if a < k ∨ (a = k ∧ b < i) then f (P a b) (Q a b) else P a b
theorem mxP_zero {f : Bool → Bool → Bool} {P Q : Nat → Nat → Bool} : mxP f P Q 0 0 = P := by funext a b; simp [mxP]
theorem mxP_put {f : Bool → Bool → Bool} {P Q : Nat → Nat → Bool} {k i : Nat} : putP (mxP f P Q k i) k i (f (P k i) (Q k i)) = mxP f P Q k (i + 1) := by
  funext a b
  simp only [putP, mxP]
  by_cases e : a = k ∧ b = i
  · obtain ⟨rfl, rfl⟩ := e; simp
  · rw [if_neg e]
    have : (a < k ∨ (a = k ∧ b < i)) ↔ (a < k ∨ (a = k ∧ b < i + 1)) := by
      constructor
      · rintro (h | ⟨h, h'⟩)
        · exact .inl h
        · exact .inr ⟨h, by omega⟩
      · rintro (h | ⟨h, h'⟩)
        · exact .inl h
        · exact .inr ⟨h, by rcases Nat.lt_or_ge b i with h2 | h2; exact h2; exact absurd ⟨h, by omega⟩ e⟩
    simp only [this]
theorem mxP_at {f : Bool → Bool → Bool} {P Q : Nat → Nat → Bool} {k i : Nat} : mxP f P Q k i k i = P k i := by simp [mxP]
theorem mxP_row {f : Bool → Bool → Bool} {P Q : Nat → Nat → Bool} {N k : Nat} : gridP N (mxP f P Q k N) = gridP N (mxP f P Q (k + 1) 0) := gridP_ext fun a _ b hb => by
  simp only [mxP]
  have : (a < k ∨ (a = k ∧ b < N)) ↔ (a < k + 1 ∨ (a = k + 1 ∧ b < 0)) := by omega
  simp only [this]
theorem mxP_all {f : Bool → Bool → Bool} {P Q : Nat → Nat → Bool} {N : Nat} : relRows N (mxP f P Q N 0) = relRows N (allP f P Q) := relRows_ext fun a ha b _ => by simp [mxP, allP, ha]

theorem mx_cells {f : Bool → Bool → Bool} {P Q : Nat → Nat → Bool} {N k i : Nat} {v : Bool} (ev : f (P k i) (Q k i) = v) : ((lineP N (mxP f P Q k i) k).map bLV).set i (.bool v) = (lineP N (mxP f P Q k (i + 1)) k).map bLV := by
  subst ev
  rw [← mxP_put]; exact cells_put
end Go.Proofs.Ytgockgehbnekbaa
namespace Go.Proofs.Ytgockgehbnekbaa
open Go.Lg
set_option maxHeartbeats 1600000
set_option maxRecDepth 10000
set_option linter.unusedVariables false
set_option linter.unusedSimpArgs false

end Go.Proofs.Ytgockgehbnekbaa
namespace Go.Proofs.Ytgockgehbnekbaa
open Go.Lg
set_option maxHeartbeats 1600000
set_option maxRecDepth 10000
set_option linter.unusedVariables false
set_option linter.unusedSimpArgs false

theorem prTo_end (rows : List (List Int)) : prTo rows rows.length 0 = prFrom 0 rows := by rw [prTo_zero, List.take_length]

theorem pairsOf_h (n : Int) (rows : List (List Int)) :
    HSpec env.P 70 [relLV n rows] [] (.hs 0 ((pairsL n rows).map Pr.lv).length) [.arr 163 2 ((pairsL n rows).map Pr.lv)] := by
  refine HSpec_of_code (E := env.x [] 0) env_ok.x (fn := Try.f70) Try.func70 rfl Try.call70 _ _ _ _ ?_
  ((repeat ((conv => whnf); first | refine brT ?_ | refine brF ?_)); conv => whnf)
  refine ⟨_, isRelation_impl n rows, ?_⟩
  ((repeat ((conv => whnf); first | refine brT ?_ | refine brF ?_)); conv => whnf)
  (refine ⟨fun h => ?_, fun h => ?_⟩ <;> rw [h])
  · rw [notB_t] at h
    have e : pairsL n rows = [] := by unfold pairsL; rw [h]
    rw [e]
    ((repeat ((conv => whnf); first | refine brT ?_ | refine brF ?_)); conv => whnf)
    exact ⟨[.hs 0 0], rfl, rfl, .inr ⟨[.nil 163 2], ⟨rfl, rfl, trivial⟩, ⟨rfl, rfl, trivial⟩, rfl⟩⟩
  rw [notB_f] at h
  have e : pairsL n rows = prFrom 0 rows := by unfold pairsL; rw [h]
  have hr := relIn_of h
  have ht := hr.tot
  rw [e]
  ((repeat ((conv => whnf); first | refine brT ?_ | refine brF ?_)); conv => whnf)
  intro hm
  have hm' : rows.length ≤ Go.maxLen := by simpa using hm
  ((repeat ((conv => whnf); first | refine brT ?_ | refine brF ?_)); conv => whnf)
  refine loop_ruleR (α := Nat) [.old 0, .nil 163 2] (fun k => [(14, .int .i64 (k : Int)), (3, .hs 1 ((prTo rows k 0).map Pr.lv).length)]) (fun k => [.box (relLV n rows), .arr 163 2 ((prTo rows k 0).map Pr.lv)]) (fun k => rows.length - k) (fun k => k ≤ rows.length) 0 (Nat.zero_le _) ?_ ?_
  · refine ⟨?_, ⟨rfl, rfl, rfl, rfl, trivial⟩, rfl⟩
    ((repeat ((conv => whnf); refine ⟨rfl, rfl, ?_⟩)); trivial)
  intro k hk
  ((repeat ((conv => whnf); first | refine brT ?_ | refine brF ?_)); conv => whnf)
  (refine ⟨fun h1 => ?_, fun h1 => ?_⟩ <;> rw [h1])
  · have hlt : k < rows.length := by rw [ltI_t] at h1; simp at h1; omega
    have e1 := step_i hlt hm'
    ((repeat ((conv => whnf); first | refine brT ?_ | refine brF ?_)); conv => whnf)
    refine ⟨k, rowSl rows[k], rfl, by simp [hlt], rfl, ?_⟩
    ((repeat ((conv => whnf); first | refine brT ?_ | refine brF ?_)); conv => whnf)
    intro hmr
    have hmr' : rows[k].length ≤ Go.maxLen := by simpa using hmr
    ((repeat ((conv => whnf); first | refine brT ?_ | refine brF ?_)); conv => whnf)
    refine loop_ruleR (α := Nat) [.old 0, .old 1] (fun i => [(21, .int .i64 (i : Int)), (3, .hs 1 ((prTo rows k i).map Pr.lv).length)]) (fun i => [.box (relLV n rows), .arr 163 2 ((prTo rows k i).map Pr.lv)]) (fun i => rows[k].length - i) (fun i => i ≤ rows[k].length) 0 (Nat.zero_le _) ?_ ?_
    · refine ⟨?_, ⟨rfl, rfl, rfl, rfl, trivial⟩, rfl⟩
      ((repeat ((conv => whnf); refine ⟨rfl, rfl, ?_⟩)); trivial)
    intro i hi
    generalize hKK : kk _ = KK
    ((repeat ((conv => whnf); first | refine brT ?_ | refine brF ?_)); conv => whnf)
    (refine ⟨fun h2 => ?_, fun h2 => ?_⟩ <;> rw [h2])
    · have hil : i < rows[k].length := by rw [ltI_t] at h2; simp at h2; omega
      have e2 := step_i hil hmr'
      have hsu := prTo_succ hlt hil
      have hle := prTo_len hlt (i := i + 1) hil
      have e4 : ((prTo rows k i).map Pr.lv ++ [LV.st [LV.int .i64 (k : Int), LV.int .i64 rows[k][i]]]) = (prTo rows k (i + 1)).map Pr.lv := by rw [hsu, List.map_append]; rfl
      have e3 : LV.hs 1 ((prTo rows k i).map Pr.lv ++ [LV.st [LV.int .i64 (k : Int), LV.int .i64 rows[k][i]]]).length = LV.hs 1 ((prTo rows k (i + 1)).map Pr.lv).length := by rw [e4]
      ((repeat ((conv => whnf); first | refine brT ?_ | refine brF ?_)); conv => whnf)
      refine ⟨i, intLV rows[k][i], rfl, by simp [hil], rfl, ?_⟩
      ((repeat ((conv => whnf); first | refine brT ?_ | refine brF ?_)); conv => whnf)
      refine ⟨rfl, rfl, by rw [e4]; unfold Go.maxLen; simp; omega, by rw [e4]; simp; omega, ?_⟩
      ((repeat ((conv => whnf); first | refine brT ?_ | refine brF ?_)); conv => whnf)
      refine round_endR [.old 0, .old 3] (i + 1) hil (by omega) ⟨?_, ⟨rfl, rfl, rfl, congrArg (Blk.arr 163 2) e4, trivial⟩, rfl⟩
      repeat ((conv => whnf); first | refine ⟨rfl, e2, ?_⟩ | refine ⟨rfl, e3, ?_⟩ | refine ⟨rfl, rfl, ?_⟩)
      trivial
    · have hil : i = rows[k].length := by rw [ltI_f] at h2; simp at h2; omega
      have e4 : prTo rows k i = prTo rows (k + 1) 0 := by rw [hil, prTo_row hlt]
      have e3 : LV.hs 1 ((prTo rows k i).map Pr.lv).length = LV.hs 1 ((prTo rows (k + 1) 0).map Pr.lv).length := by rw [e4]
      subst hKK
      ((repeat ((conv => whnf); first | refine brT ?_ | refine brF ?_)); conv => whnf)
      refine round_endR [.old 0, .old 1] (k + 1) hlt (by omega) ⟨?_, ⟨rfl, rfl, rfl, congrArg (Blk.arr 163 2) (by rw [e4]), trivial⟩, rfl⟩
      repeat ((conv => whnf); first | refine ⟨rfl, e1, ?_⟩ | refine ⟨rfl, e3, ?_⟩ | refine ⟨rfl, rfl, ?_⟩)
      trivial
  · have h3 : k = rows.length := by rw [ltI_f] at h1; simp at h1; omega
    subst h3
    ((repeat ((conv => whnf); first | refine brT ?_ | refine brF ?_)); conv => whnf)
    refine ⟨[.hs 0 ((prTo rows rows.length 0).map Pr.lv).length], by rw [prTo_end]; rfl, rfl, .inr ⟨[.old 1], ⟨rfl, rfl, trivial⟩, ⟨rfl, congrArg (Blk.arr 163 2) (by rw [prTo_end]), trivial⟩, rfl⟩⟩
end Go.Proofs.Ytgockgehbnekbaa

namespace Go.Proofs.Ytgockgehbnekbaa
open Go.Lg
set_option maxHeartbeats 1600000
set_option maxRecDepth 10000
set_option linter.unusedVariables false
set_option linter.unusedSimpArgs false

end Go.Proofs.Ytgockgehbnekbaa
namespace Go.Proofs.Ytgockgehbnekbaa
open Go.Lg
set_option maxHeartbeats 1600000
set_option maxRecDepth 10000
set_option linter.unusedVariables false
set_option linter.unusedSimpArgs false

/-! A row whose element i is written field by field. -/
section
variable {L : List LV} {i : Nat}
theorem fw_get (h : i < L.length) (fs : List LV) : getP (.st (L.set i (.st fs))) [i] = some (.st fs) := by simp [getP, h]
theorem fw_get2 (h : i < L.length) {fs : List LV} {f : Nat} {x : LV} (hx : fs[f]? = some x) : getP (.st (L.set i (.st fs))) [i, f] = some x := by simp [getP, h, hx]
theorem fw_set (h : i < L.length) {fs : List LV} {f : Nat} {x : LV} (hx : fs[f]? = some x) (v : LV) :
    (match (L.set i (.st fs))[i]? with | some z => (L.set i (.st fs)).set i (setP z [f] v) | none => L.set i (.st fs)) = L.set i (.st (fs.set f v)) := by
  have : (L.set i (.st fs))[i]? = some (.st fs) := by simp [h]
  rw [this]
  simp only [setP, hx]
  cases x <;> simp [List.set_set]
theorem fw_self (h : i < L.length) {fs : List LV} (hx : L[i]? = some (.st fs)) : L = L.set i (.st fs) := by
  apply List.ext_getElem?
  intro j
  rw [List.getElem?_set]
  split
  · rename_i e; subst e; exact hx
  · rfl
end

def markPer (k : Nat) : Per := ⟨mText k, (k : Int) + 1, (k : Int) + 2, (k : Int) + 3, (k : Int) + 4, (k : Int) + 5⟩
def markPers (k : Nat) : Nat → List Per
  | 0 => []
  | n + 1 => markPers k n ++ [markPer (k + 6 * n)]
theorem markPers_len (k : Nat) : ∀ n, (markPers k n).length = n
  | 0 => rfl
  | n + 1 => by simp [markPers, markPers_len k n]
def rowPM (k : Nat) (ps : List Per) (i : Nat) : List LV := (markPers k i ++ ps.drop i).map Per.lv
theorem rowPM_len {k : Nat} {ps : List Per} {i : Nat} (h : i ≤ ps.length) : (rowPM k ps i).length = ps.length := by simp [rowPM, markPers_len]; omega
theorem rowPM_get {k : Nat} {ps : List Per} {i : Nat} (h : i < ps.length) : (rowPM k ps i)[i]? = some ps[i].lv := by
  unfold rowPM
  rw [List.getElem?_map, List.getElem?_append_right (by rw [markPers_len]; exact Nat.le_refl _), markPers_len, Nat.sub_self, List.getElem?_drop, Nat.add_zero, List.getElem?_eq_getElem h]
  rfl
theorem rowPM_set {k : Nat} {ps : List Per} {i : Nat} (h : i < ps.length) : (rowPM k ps i).set i (markPer (k + 6 * i)).lv = rowPM k ps (i + 1) := by
  unfold rowPM
  rw [List.drop_eq_getElem_cons h, List.map_append, List.map_cons, List.set_append_right _ _ (by simp [markPers_len])]
  simp [markPers, markPers_len]

theorem markPersonS_spec (ps : List Per) (n : Nat) (hn : n = (ps.map Per.lv).length) (k : Nat) (h1 : k + 6 * ps.length ≤ 2305843009213693952) :
    HSpec env.P 112 [.hs 0 n, .int .i64 (k : Int)] [.arr 132 6 (ps.map Per.lv)] (.int .i64 ((k + 6 * ps.length : Nat) : Int)) [.arr 132 6 ((markPers k ps.length).map Per.lv)] := by
  subst hn
  refine HSpec_of_code (E := env.x [] 1) env_ok.x (fn := Try.f112) Try.func112 rfl Try.call112 _ _ _ _ ?_
  ((repeat ((conv => whnf); first | refine brT ?_ | refine brF ?_)); conv => whnf)
  refine loop_rule (α := Nat) (fun i => [(5, .int .i64 (i : Int)), (1, .int .i64 ((k + 6 * i : Nat) : Int)), (0, .hs 0 (rowPM k ps i).length)]) (fun i => [.arr 132 6 (rowPM k ps i)]) (fun i => ps.length - i) (fun i => i ≤ ps.length) 0 (Nat.zero_le _) ?_ ?_
  · have e0 : ps.map Per.lv = rowPM k ps 0 := by simp [rowPM, markPers]
    have e1 : LV.hs 0 (ps.map Per.lv).length = LV.hs 0 (rowPM k ps 0).length := by rw [e0]
    refine ⟨?_, ⟨congrArg (Blk.arr 132 6) e0, trivial⟩, rfl, rfl⟩
    ((repeat ((conv => whnf); first | refine ⟨e1, ?_⟩ | refine ⟨rfl, ?_⟩)); trivial)
  intro i hi
  have hl := rowPM_len (k := k) hi
  ((repeat ((conv => whnf); first | refine brT ?_ | refine brF ?_)); conv => whnf)
  refine ⟨rfl, fun hm => ?_⟩
  have hm' : ps.length ≤ Go.maxLen := by rw [← hl]; exact hm
  ((repeat ((conv => whnf); first | refine brT ?_ | refine brF ?_)); conv => whnf)
  (refine ⟨fun g1 => ?_, fun g1 => ?_⟩ <;> rw [g1])
  · have hlt : i < ps.length := by rw [ltI_t] at g1; omega
    have e := step_i hlt hm'
    have hiL : i < (rowPM k ps i).length := by omega
    have hg := rowPM_get (k := k) hlt
    have hset := rowPM_set (k := k) hlt
    have w0 : IntKind.i64.wrap (((k + 6 * i : Nat) : Int) + 1) = ((k + 6 * i : Nat) : Int) + 1 := wrap64 (by omega) (by omega)
    have w1 : IntKind.i64.wrap (((k + 6 * i : Nat) : Int) + 1 + 1) = ((k + 6 * i : Nat) : Int) + 2 := by rw [wrap64 (by omega) (by omega)]; omega
    have w2 : IntKind.i64.wrap (((k + 6 * i : Nat) : Int) + 2 + 1) = ((k + 6 * i : Nat) : Int) + 3 := by rw [wrap64 (by omega) (by omega)]; omega
    have w3 : IntKind.i64.wrap (((k + 6 * i : Nat) : Int) + 3 + 1) = ((k + 6 * i : Nat) : Int) + 4 := by rw [wrap64 (by omega) (by omega)]; omega
    have w4 : IntKind.i64.wrap (((k + 6 * i : Nat) : Int) + 4 + 1) = ((k + 6 * i : Nat) : Int) + 5 := by rw [wrap64 (by omega) (by omega)]; omega
    have w5 : IntKind.i64.wrap (((k + 6 * i : Nat) : Int) + 5 + 1) = ((k + 6 * (i + 1) : Nat) : Int) := by rw [wrap64 (by omega) (by omega)]; omega
    have hlen : ∀ x : LV, (rowPM k ps i).length = ((rowPM k ps i).set i x).length := fun x => by simp
    generalize ps[i] = p at hg hset
    generalize hK : ((k + 6 * i : Nat) : Int) = kk at w0 w1 w2 w3 w4 w5 ⊢
    generalize hN : mText (k + 6 * i) = nm
    have hmt := markText_spec (k + 6 * i) (by omega)
    rw [hK, hN] at hmt
    have hfin : (rowPM k ps i).set i (.st [.str nm, .int .i64 (kk + 1), .int .i64 (kk + 2), .int .i64 (kk + 3), .int .i64 (kk + 4), .int .i64 (kk + 5)]) = rowPM k ps (i + 1) := by
      rw [← hset]; unfold markPer Per.lv; rw [hK, hN]
    generalize rowPM k ps i = L at hl hm hiL hg hlen hfin g1 ⊢
    have hgp : getP (.st L) [i] = some (.st [LV.str p.name, LV.int .i64 p.sex, LV.int .i64 p.father, LV.int .i64 p.mother, LV.int .i64 p.born, LV.int .i64 p.died]) := by simp [getP, hg, Per.lv]
    have hgp0 : getP (.st L) [i, 0] = some (.str p.name) := by simp [getP, hg, Per.lv]
    ((repeat ((conv => whnf); first | refine brT ?_ | refine brF ?_)); conv => whnf)
    refine ⟨_, hmt, ?_⟩
    ((repeat ((conv => whnf); first | refine brT ?_ | refine brF ?_)); conv => whnf)
    refine ⟨rfl, rfl, i, rfl, hiL, ?_⟩
    ((repeat ((conv => whnf); first | refine brT ?_ | refine brF ?_)); conv => whnf)
    refine ⟨rfl, by simp, [LV.str p.name, LV.int .i64 p.sex, LV.int .i64 p.father, LV.int .i64 p.mother, LV.int .i64 p.born, LV.int .i64 p.died], hgp, rfl, by simp, ?_⟩
    ((repeat ((conv => whnf); first | refine brT ?_ | refine brF ?_)); conv => whnf)
    refine ⟨rfl, i, [0], .str p.name, rfl, hgp0, rfl, rfl, rfl, L.set i (.st [.str nm, .int .i64 p.sex, .int .i64 p.father, .int .i64 p.mother, .int .i64 p.born, .int .i64 p.died]), by rw [hg]; rfl, ?_⟩
    ((repeat ((conv => whnf); first | refine brT ?_ | refine brF ?_)); conv => whnf)
    rw [w0]
    refine ⟨hlen _, rfl, i, rfl, by simpa using hiL, ?_⟩
    ((repeat ((conv => whnf); first | refine brT ?_ | refine brF ?_)); conv => whnf)
    refine ⟨hlen _, by simp, _, fw_get hiL _, rfl, by simp, ?_⟩
    ((repeat ((conv => whnf); first | refine brT ?_ | refine brF ?_)); conv => whnf)
    refine ⟨hlen _, i, [1], _, rfl, fw_get2 hiL rfl, rfl, rfl, rfl, _, fw_set hiL rfl (.int .i64 (kk + 1)), ?_⟩
    ((repeat ((conv => whnf); first | refine brT ?_ | refine brF ?_)); conv => whnf)
    rw [w1]
    refine ⟨hlen _, rfl, i, rfl, by simpa using hiL, ?_⟩
    ((repeat ((conv => whnf); first | refine brT ?_ | refine brF ?_)); conv => whnf)
    refine ⟨hlen _, by simp, _, fw_get hiL _, rfl, by simp, ?_⟩
    ((repeat ((conv => whnf); first | refine brT ?_ | refine brF ?_)); conv => whnf)
    refine ⟨hlen _, i, [2], _, rfl, fw_get2 hiL rfl, rfl, rfl, rfl, _, fw_set hiL rfl (.int .i64 (kk + 2)), ?_⟩
    ((repeat ((conv => whnf); first | refine brT ?_ | refine brF ?_)); conv => whnf)
    rw [w2]
    refine ⟨hlen _, rfl, i, rfl, by simpa using hiL, ?_⟩
    ((repeat ((conv => whnf); first | refine brT ?_ | refine brF ?_)); conv => whnf)
    refine ⟨hlen _, by simp, _, fw_get hiL _, rfl, by simp, ?_⟩
    ((repeat ((conv => whnf); first | refine brT ?_ | refine brF ?_)); conv => whnf)
    refine ⟨hlen _, i, [3], _, rfl, fw_get2 hiL rfl, rfl, rfl, rfl, _, fw_set hiL rfl (.int .i64 (kk + 3)), ?_⟩
    ((repeat ((conv => whnf); first | refine brT ?_ | refine brF ?_)); conv => whnf)
    rw [w3]
    refine ⟨hlen _, rfl, i, rfl, by simpa using hiL, ?_⟩
    ((repeat ((conv => whnf); first | refine brT ?_ | refine brF ?_)); conv => whnf)
    refine ⟨hlen _, by simp, _, fw_get hiL _, rfl, by simp, ?_⟩
    ((repeat ((conv => whnf); first | refine brT ?_ | refine brF ?_)); conv => whnf)
    refine ⟨hlen _, i, [4], _, rfl, fw_get2 hiL rfl, rfl, rfl, rfl, _, fw_set hiL rfl (.int .i64 (kk + 4)), ?_⟩
    ((repeat ((conv => whnf); first | refine brT ?_ | refine brF ?_)); conv => whnf)
    rw [w4]
    refine ⟨hlen _, rfl, i, rfl, by simpa using hiL, ?_⟩
    ((repeat ((conv => whnf); first | refine brT ?_ | refine brF ?_)); conv => whnf)
    refine ⟨hlen _, by simp, _, fw_get hiL _, rfl, by simp, ?_⟩
    ((repeat ((conv => whnf); first | refine brT ?_ | refine brF ?_)); conv => whnf)
    refine ⟨hlen _, i, [5], _, rfl, fw_get2 hiL rfl, rfl, rfl, rfl, _, fw_set hiL rfl (.int .i64 (kk + 5)), ?_⟩
    ((repeat ((conv => whnf); first | refine brT ?_ | refine brF ?_)); conv => whnf)
    have e5 : LV.hs 0 L.length = LV.hs 0 (rowPM k ps (i + 1)).length := by rw [hl, rowPM_len (by omega)]
    have e6 : LV.int .i64 (IntKind.i64.wrap (kk + 5 + 1)) = LV.int .i64 ((k + 6 * (i + 1) : Nat) : Int) := by rw [w5]
    refine round_end (i + 1) hlt (by omega) ⟨?_, ⟨congrArg (Blk.arr 132 6) hfin, trivial⟩, rfl, rfl⟩
    repeat ((conv => whnf); first | refine ⟨e, ?_⟩ | refine ⟨e6, ?_⟩ | refine ⟨e5, ?_⟩ | refine ⟨rfl, ?_⟩)
    trivial
  · have h3 : i = ps.length := by rw [ltI_f] at g1; omega
    subst h3
    ((repeat ((conv => whnf); first | refine brT ?_ | refine brF ?_)); conv => whnf)
    exact ⟨[.int .i64 ((k + 6 * ps.length : Nat) : Int)], rfl, rfl, .inl ⟨⟨rfl, trivial⟩, ⟨by simp [rowPM], trivial⟩, rfl, rfl⟩⟩
end Go.Proofs.Ytgockgehbnekbaa

namespace Go.Proofs.Ytgockgehbnekbaa
open Go.Lg
set_option maxHeartbeats 1600000
set_option maxRecDepth 10000
set_option linter.unusedVariables false
set_option linter.unusedSimpArgs false

def Pr.eq (p q : Pr) : Bool := eqI p.a q.a && eqI p.b q.b
theorem Pr.eq_refl (p : Pr) : p.eq p = true := by simp [Pr.eq, eqI_refl]
theorem eqPairS_refl (ps : List Pr) : eqList Pr.eq ps ps = true := eqList_refl Pr.eq_refl ps

def markPrs (k : Nat) : Nat → List Pr
  | 0 => []
  | n + 1 => markPrs k n ++ [⟨((k + 2 * n : Nat) : Int), ((k + 2 * n : Nat) : Int) + 1⟩]
theorem markPrs_len (k : Nat) : ∀ n, (markPrs k n).length = n
  | 0 => rfl
  | n + 1 => by simp [markPrs, markPrs_len k n]
theorem markPrs_get (k : Nat) : ∀ (n i : Nat), i < n → (markPrs k n)[i]? = some ⟨((k + 2 * i : Nat) : Int), ((k + 2 * i : Nat) : Int) + 1⟩
  | 0, i, h => by omega
  | n + 1, i, h => by
    simp only [markPrs]
    by_cases e : i = n
    · subst e; rw [List.getElem?_append_right (by rw [markPrs_len]; exact Nat.le_refl _), markPrs_len]; simp
    · rw [List.getElem?_append_left (by rw [markPrs_len]; omega)]; exact markPrs_get k n i (by omega)
def rowQM (k : Nat) (ps : List Pr) (i : Nat) : List LV := (markPrs k i ++ ps.drop i).map Pr.lv
theorem rowQM_len {k : Nat} {ps : List Pr} {i : Nat} (h : i ≤ ps.length) : (rowQM k ps i).length = ps.length := by simp [rowQM, markPrs_len]; omega
theorem rowQM_get {k : Nat} {ps : List Pr} {i : Nat} (h : i < ps.length) : (rowQM k ps i)[i]? = some ps[i].lv := by
  unfold rowQM
  rw [List.getElem?_map, List.getElem?_append_right (by rw [markPrs_len]; exact Nat.le_refl _), markPrs_len, Nat.sub_self, List.getElem?_drop, Nat.add_zero, List.getElem?_eq_getElem h]
  rfl
theorem rowQM_set {k : Nat} {ps : List Pr} {i : Nat} (h : i < ps.length) : (rowQM k ps i).set i (Pr.lv ⟨((k + 2 * i : Nat) : Int), ((k + 2 * i : Nat) : Int) + 1⟩) = rowQM k ps (i + 1) := by
  unfold rowQM
  rw [List.drop_eq_getElem_cons h, List.map_append, List.map_cons, List.set_append_right _ _ (by simp [markPrs_len])]
  simp [markPrs, markPrs_len]

end Go.Proofs.Ytgockgehbnekbaa
namespace Go.Proofs.Ytgockgehbnekbaa
open Go.Lg
set_option maxHeartbeats 1600000
set_option maxRecDepth 10000
set_option linter.unusedVariables false
set_option linter.unusedSimpArgs false

/-! ### Wrappers of the model -/
/-- A relation made, handed out with its rows frozen. -/
theorem rel_f {F : Nat} {args : List LV} {N : Nat} {R : List (List Int)} (h : HSpec env.P F args [] (relHS N 0 (R.map rowOw).length) [.tree 92 1 (R.map rowOw)]) : FSpec env.P F args (.st [.int .i64 (N : Int), .own 92 1 (R.map rowSl)]) :=
  FSpec_of_tree h (by
    simp only [relHS, exW, exsW]
    exact ⟨trivial, trivial, by rw [dms_rows]; simp, rfl, rfl, dms_rows _, by simp⟩)

/-! ### Equality -/
/-- Whether two valid relations of one size are equal. -/
def relEq (n : Int) (rows : List (List Int)) (m : Int) (rows' : List (List Int)) : Bool := alike n rows m rows' && decide (rows = rows')

theorem sets_flat (N : Nat) (P : Nat → Nat → Bool) : flatT (LV.own 139 1 ((setsP N P).map uLV)) = true := by
  simp only [flatT, flatB]
  generalize setsP N P = l
  induction l with
  | nil => rfl
  | cons x xs ih => simp only [List.map_cons, flatsB, ih]; rfl
theorem setsOf_f (n : Int) (rows : List (List Int)) (hr : RelIn n rows) : FSpec env.P 136 [relLV n rows] (.own 139 1 ((setsP rows.length (relP rows)).map uLV)) :=
  FSpec_of_HSpec (setsOf_P n rows hr) (by simp only [exW]; exact ⟨rfl, rfl, rfl, rfl, by simp⟩)
def eqU (a b : Nat) : Bool := eqI (a : Int) (b : Int)
theorem eqU_t {a b : Nat} : eqU a b = true ↔ a = b := by unfold eqU; rw [eqI_t]; omega
theorem eqList_iff {α : Type} {f : α → α → Bool} (hf : ∀ a b, f a b = true ↔ a = b) : ∀ (ps qs : List α), eqList f ps qs = true ↔ ps = qs
  | [], [] => by simp [eqList]
  | [], _ :: _ => by simp [eqList]
  | _ :: _, [] => by simp [eqList]
  | x :: xs, y :: ys => by
    simp only [eqList, Bool.and_eq_true, hf, eqList_iff hf xs ys, List.cons.injEq]
theorem sets_eq {n : Int} {rows rows' : List (List Int)} (hr : RelIn n rows) (hs : RelIn n rows') (hl : rows'.length = rows.length) :
    eqList eqU (setsP rows.length (relP rows)) (setsP rows.length (relP rows')) = decide (rows = rows') := by
  rw [Bool.eq_iff_iff, eqList_iff (fun a b => eqU_t), decide_eq_true_eq]
  constructor
  · intro h
    have e1 := setsP_rows (n := rows.length) (P := relP rows) hr.size
    have e2 := setsP_rows (n := rows.length) (P := relP rows') hr.size
    have h1 : RelIn (rows.length : Int) rows := by have := hr.len; rw [this]; exact hr
    have h2 : RelIn (rows.length : Int) rows' := by have := hr.len; rw [this]; exact hs
    rw [rows_eq h1, rows_eq h2, ← e1, ← e2, h]
  · rintro rfl; rfl
theorem l2Same_spec (N : Nat) (P Q : Nat → Nat → Bool) (hN : N ≤ 40) : FSpec env.P 144 [.sl ((gridP N P).map lineSl), .sl ((gridP N Q).map lineSl)] (.bool (decide (∀ a, a < N → ∀ b, b < N → P a b = Q a b))) := by
  refine FSpec_of_code env_ok (fn := Try.f144) Try.func144 rfl Try.call144 _ _ ?_
  ((repeat ((conv => whnf); first | refine brT ?_ | refine brF ?_)); conv => whnf)
  intro _
  rw [linesS_len]
  ((repeat ((conv => whnf); first | refine brT ?_ | refine brF ?_)); conv => whnf)
  refine loop_rule (α := Nat) (fun k => [(9, .int .i64 (k : Int))]) (fun _ => []) (fun k => N - k) (fun k => k ≤ N ∧ ∀ a, a < k → ∀ b, b < N → P a b = Q a b) 0 ⟨Nat.zero_le _, fun a h => absurd h (Nat.not_lt_zero a)⟩ ?_ ?_
  · refine ⟨?_, trivial, rfl, rfl⟩
    ((repeat ((conv => whnf); refine ⟨rfl, ?_⟩)); trivial)
  rintro k ⟨hk, he⟩
  generalize hK0 : kk _ = K0
  ((repeat ((conv => whnf); first | refine brT ?_ | refine brF ?_)); conv => whnf)
  (refine ⟨fun h1 => ?_, fun h1 => ?_⟩ <;> rw [h1])
  · have hlt : k < N := by rw [ltI_t] at h1; omega
    have e1 := step_i (n := N) hlt (by unfold Go.maxLen; omega)
    ((repeat ((conv => whnf); first | refine brT ?_ | refine brF ?_)); conv => whnf)
    refine ⟨k, lineSl (lineP N P k), rfl, linesS_get hlt, rfl, ?_⟩
    ((repeat ((conv => whnf); first | refine brT ?_ | refine brF ?_)); conv => whnf)
    intro _
    rw [cells_len]
    ((repeat ((conv => whnf); first | refine brT ?_ | refine brF ?_)); conv => whnf)
    refine loop_rule (α := Nat) (fun i => [(17, .int .i64 (i : Int))]) (fun _ => []) (fun i => N - i) (fun i => i ≤ N ∧ ∀ b, b < i → P k b = Q k b) 0 ⟨Nat.zero_le _, fun b h => absurd h (Nat.not_lt_zero b)⟩ ?_ ?_
    · refine ⟨?_, trivial, rfl, rfl⟩
      ((repeat ((conv => whnf); refine ⟨rfl, ?_⟩)); trivial)
    rintro i ⟨hi, hb⟩
    generalize hK1 : kk _ = K1
    ((repeat ((conv => whnf); first | refine brT ?_ | refine brF ?_)); conv => whnf)
    (refine ⟨fun h2 => ?_, fun h2 => ?_⟩ <;> rw [h2])
    · have hil : i < N := by rw [ltI_t] at h2; omega
      have e2 := step_i (n := N) hil (by unfold Go.maxLen; omega)
      ((repeat ((conv => whnf); first | refine brT ?_ | refine brF ?_)); conv => whnf)
      refine ⟨true, by kernel_rfl, ?_⟩
      ((repeat ((conv => whnf); first | refine brT ?_ | refine brF ?_)); conv => whnf)
      refine ⟨k, lineSl (lineP N P k), rfl, linesS_get hlt, rfl, ?_⟩
      ((repeat ((conv => whnf); first | refine brT ?_ | refine brF ?_)); conv => whnf)
      refine ⟨i, .bool (P k i), rfl, cell_get hil, rfl, ?_⟩
      ((repeat ((conv => whnf); first | refine brT ?_ | refine brF ?_)); conv => whnf)
      refine ⟨k, lineSl (lineP N Q k), rfl, linesS_get hlt, rfl, ?_⟩
      ((repeat ((conv => whnf); first | refine brT ?_ | refine brF ?_)); conv => whnf)
      refine ⟨i, .bool (Q k i), rfl, cell_get hil, rfl, ?_⟩
      ((repeat ((conv => whnf); first | refine brT ?_ | refine brF ?_)); conv => whnf)
      (refine ⟨fun h3 => ?_, fun h3 => ?_⟩ <;> rw [h3])
      · rw [notB_t] at h3
        subst hK1
        subst hK0
        ((repeat ((conv => whnf); first | refine brT ?_ | refine brF ?_)); conv => whnf)
        refine fin ?_
        refine Eq.symm (decide_eq_false ?_)
        intro h
        have := h k hlt i hil
        rw [this] at h3
        rw [eqB_refl] at h3
        cases h3
      · rw [notB_f] at h3
        have hv : P k i = Q k i := by unfold eqB at h3; simpa using h3
        ((repeat ((conv => whnf); first | refine brT ?_ | refine brF ?_)); conv => whnf)
        have hb2 : ∀ b, b < i + 1 → P k b = Q k b := by
          intro b hb'
          rcases Nat.lt_or_ge b i with h | h
          · exact hb b h
          · obtain rfl : b = i := by omega
            exact hv
        refine round_end (i + 1) ⟨hil, hb2⟩ (by omega) ⟨?_, trivial, rfl, rfl⟩
        ((repeat ((conv => whnf); first | refine ⟨e2, ?_⟩ | refine ⟨rfl, ?_⟩)); trivial)
    · have hil : i = N := by rw [ltI_f] at h2; omega
      subst hil
      subst hK1
      ((repeat ((conv => whnf); first | refine brT ?_ | refine brF ?_)); conv => whnf)
      have he2 : ∀ a, a < k + 1 → ∀ b, b < i → P a b = Q a b := by
        intro a ha
        rcases Nat.lt_or_ge a k with h | h
        · exact he a h
        · obtain rfl : a = k := by omega
          exact hb
      refine round_end (k + 1) ⟨hlt, he2⟩ (by omega) ⟨?_, trivial, rfl, rfl⟩
      ((repeat ((conv => whnf); first | refine ⟨e1, ?_⟩ | refine ⟨rfl, ?_⟩)); trivial)
  · have h3 : k = N := by rw [ltI_f] at h1; omega
    subst h3
    subst hK0
    ((repeat ((conv => whnf); first | refine brT ?_ | refine brF ?_)); conv => whnf)
    refine fin ?_
    exact Eq.symm (decide_eq_true he)
theorem grid_eq {n : Int} {rows rows' : List (List Int)} (hr : RelIn n rows) (hs : RelIn n rows') (hl : rows'.length = rows.length) :
    decide (∀ a, a < rows.length → ∀ b, b < rows.length → relP rows a b = relP rows' a b) = decide (rows = rows') := by
  rw [decide_eq_decide]
  constructor
  · intro h
    have h1 : RelIn (rows.length : Int) rows := by have := hr.len; rw [this]; exact hr
    have h2 : RelIn (rows.length : Int) rows' := by have := hr.len; rw [this]; exact hs
    rw [rows_eq h1, rows_eq h2, relRows_ext h]
  · rintro rfl; exact fun _ _ _ _ => rfl
theorem specEqual_spec (n : Int) (rows : List (List Int)) (m : Int) (rows' : List (List Int)) : FSpec env.P 63 [relLV n rows, relLV m rows'] (.bool (relEq n rows m rows')) := by
  refine FSpec_of_code env_ok (fn := Try.f63) Try.func63 rfl Try.call63 _ _ ?_
  ((repeat ((conv => whnf); first | refine brT ?_ | refine brF ?_)); conv => whnf)
  refine ⟨true, by kernel_rfl, ?_⟩
  ((repeat ((conv => whnf); first | refine brT ?_ | refine brF ?_)); conv => whnf)
  refine ⟨_, l2Both_spec n rows m rows', ?_⟩
  ((repeat ((conv => whnf); first | refine brT ?_ | refine brF ?_)); conv => whnf)
  (refine ⟨fun h => ?_, fun h => ?_⟩ <;> rw [h])
  · obtain ⟨hr, hs, rfl, hl⟩ := alike_in h
    have hq := l2Grid_f n rows' hs
    rw [hl] at hq
    ((repeat ((conv => whnf); first | refine brT ?_ | refine brF ?_)); conv => whnf)
    refine ⟨_, l2Grid_f n rows hr, ?_⟩
    ((repeat ((conv => whnf); first | refine brT ?_ | refine brF ?_)); conv => whnf)
    refine ⟨_, hq, ?_⟩
    ((repeat ((conv => whnf); first | refine brT ?_ | refine brF ?_)); conv => whnf)
    refine ⟨_, l2Same_spec rows.length (relP rows) (relP rows') hr.size, ?_⟩
    ((repeat ((conv => whnf); first | refine brT ?_ | refine brF ?_)); conv => whnf)
    refine fin ?_
    rw [grid_eq hr hs hl]
    simp [relEq, h]
  · ((repeat ((conv => whnf); first | refine brT ?_ | refine brF ?_)); conv => whnf)
    refine fin ?_
    simp [relEq, h]
end Go.Proofs.Ytgockgehbnekbaa

namespace Go.Proofs.Ytgockgehbnekbaa
open Go.Lg
set_option maxHeartbeats 1600000
set_option maxRecDepth 10000
set_option linter.unusedVariables false
set_option linter.unusedSimpArgs false

theorem flats_prs : ∀ xs : List Pr, flatsB (xs.map Pr.lv) = true
  | [] => rfl
  | x :: xs => by simp [flatsB, flatB, Pr.lv]; exact flats_prs xs

end Go.Proofs.Ytgockgehbnekbaa
namespace Go.Proofs.Ytgockgehbnekbaa
open Go.Lg
set_option maxHeartbeats 1600000
set_option maxRecDepth 10000
set_option linter.unusedVariables false
set_option linter.unusedSimpArgs false

theorem mem_prFrom : ∀ (rows : List (List Int)) (a0 : Nat) (p : Pr), p ∈ prFrom a0 rows ↔ ∃ i : Nat, i < rows.length ∧ p.a = ((a0 + i : Nat) : Int) ∧ p.b ∈ rows.getD i []
  | [], a0, p => by simp [prFrom]
  | r :: rs, a0, p => by
    simp only [prFrom, List.mem_append, mem_prFrom rs (a0 + 1) p]
    constructor
    · rintro (h | ⟨i, h1, h2, h3⟩)
      · obtain ⟨b, hb, rfl⟩ := List.mem_map.1 h
        exact ⟨0, by simp, by simp, by simpa using hb⟩
      · exact ⟨i + 1, by simp; omega, by rw [h2]; congr 1; omega, by simpa using h3⟩
    · rintro ⟨i, h1, h2, h3⟩
      cases i with
      | zero =>
        left
        refine List.mem_map.2 ⟨p.b, by simpa using h3, ?_⟩
        cases p; simp at h2 ⊢; exact h2.symm
      | succ i => right; exact ⟨i, by simpa using h1, by rw [h2]; congr 1; omega, by simpa using h3⟩

/-- Whether what is related in the one is related in the other. -/
def relWithin (n : Int) (rows : List (List Int)) (m : Int) (rows' : List (List Int)) : Bool :=
  alike n rows m rows' && decide (∀ a, a < rows.length → ∀ b, b < rows.length → relP rows a b = true → relP rows' a b = true)

theorem less_none {N : Nat} {P Q : Nat → Nat → Bool} (hN : N ≤ 40) : eqI ((pairsL N (relRows N (allP (fun x y => x && !y) P Q))).length : Int) 0 = decide (∀ a, a < N → ∀ b, b < N → P a b = true → Q a b = true) := by
  have hin := relRows_in (n := N) (P := allP (fun x y => x && !y) P Q) hN
  have e : pairsL N (relRows N (allP (fun x y => x && !y) P Q)) = prFrom 0 (relRows N (allP (fun x y => x && !y) P Q)) := by unfold pairsL; rw [relOk_of hin]
  rw [e, Bool.eq_iff_iff, eqI_t, decide_eq_true_eq]
  constructor
  · intro h a ha b hb hp
    cases hq : Q a b
    · exfalso
      have hz : prFrom 0 (relRows N (allP (fun x y => x && !y) P Q)) = [] := List.eq_nil_of_length_eq_zero (by omega)
      have hm : (⟨(a : Int), (b : Int)⟩ : Pr) ∈ prFrom 0 (relRows N (allP (fun x y => x && !y) P Q)) :=
        (mem_prFrom _ 0 _).2 ⟨a, by rw [relRows_len]; exact ha, by simp, (relRows_mem ha).2 ⟨hb, by simp [allP, hp, hq]⟩⟩
      rw [hz] at hm
      simp at hm
    · rfl
  · intro h
    have : prFrom 0 (relRows N (allP (fun x y => x && !y) P Q)) = [] := by
      rw [List.eq_nil_iff_forall_not_mem]
      intro p hp
      obtain ⟨i, h1, h2, h3⟩ := (mem_prFrom _ 0 p).1 hp
      rw [relRows_len] at h1
      have hr : (relRows N (allP (fun x y => x && !y) P Q)).getD i [] ∈ relRows N (allP (fun x y => x && !y) P Q) := by
        have : i < (relRows N (allP (fun x y => x && !y) P Q)).length := by rw [relRows_len]; exact h1
        rw [List.getD_eq_getElem?_getD, List.getElem?_eq_getElem this]; exact List.getElem_mem this
      obtain ⟨b0, b1, _⟩ := hin.mem hr h3
      obtain ⟨b, hb⟩ : ∃ b : Nat, p.b = (b : Int) := ⟨p.b.toNat, by omega⟩
      rw [hb, relRows_mem h1] at h3
      have := h i h1 b h3.1
      simp only [allP, Bool.and_eq_true, Bool.not_eq_true'] at h3
      rw [this h3.2.1] at h3
      simp at h3
    rw [this]; rfl

theorem pairs_flat (ps : List Pr) : flatT (LV.own 163 2 (ps.map Pr.lv)) = true := by simp only [flatT, flatB]; exact flats_prs ps
theorem pairsOf_f (n : Int) (rows : List (List Int)) : FSpec env.P 70 [relLV n rows] (.own 163 2 ((pairsL n rows).map Pr.lv)) :=
  FSpec_of_HSpec (pairsOf_h n rows) (by simp only [exW]; exact ⟨rfl, rfl, rfl, rfl, by simp⟩)
theorem implWithin_spec (n : Int) (rows : List (List Int)) (m : Int) (rows' : List (List Int)) : FSpec env.P 65 [relLV n rows, relLV m rows'] (.bool (relWithin n rows m rows')) := by
  refine FSpec_of_code env_ok (fn := Try.f65) Try.func65 rfl Try.call65 _ _ ?_
  ((repeat ((conv => whnf); first | refine brT ?_ | refine brF ?_)); conv => whnf)
  refine ⟨_, areAlike_spec n rows m rows', ?_⟩
  ((repeat ((conv => whnf); first | refine brT ?_ | refine brF ?_)); conv => whnf)
  (refine ⟨fun h => ?_, fun h => ?_⟩ <;> rw [h])
  · obtain ⟨hr, hs, rfl, hl⟩ := alike_in h
    have hL := rel_f (impl_less n rows n rows')
    rw [h, show rsN true rows = rows.length from rfl] at hL
    ((repeat ((conv => whnf); first | refine brT ?_ | refine brF ?_)); conv => whnf)
    refine ⟨_, hL, ?_⟩
    ((repeat ((conv => whnf); first | refine brT ?_ | refine brF ?_)); conv => whnf)
    refine ⟨_, pairsOf_f (rows.length : Int) (relRows rows.length (allP (fun x y => x && !y) (relP rows) (relP rows'))), ?_⟩
    ((repeat ((conv => whnf); first | refine brT ?_ | refine brF ?_)); conv => whnf)
    intro _
    rw [List.length_map]
    ((repeat ((conv => whnf); first | refine brT ?_ | refine brF ?_)); conv => whnf)
    refine fin ?_
    rw [less_none hr.size]
    simp [relWithin, h]
  · ((repeat ((conv => whnf); first | refine brT ?_ | refine brF ?_)); conv => whnf)
    refine fin ?_
    simp [relWithin, h]

end Go.Proofs.Ytgockgehbnekbaa
namespace Go.Proofs.Ytgockgehbnekbaa
open Go.Lg
set_option maxHeartbeats 1600000
set_option maxRecDepth 10000
set_option linter.unusedVariables false
set_option linter.unusedSimpArgs false

theorem tot_relRows {N : Nat} {P : Nat → Nat → Bool} (hN : N ≤ 40) : tot (relRows N P) ≤ 1600 := (relRows_in hN).tot
theorem rsN_le {n : Int} {rows : List (List Int)} : rsN (relOk n rows) rows ≤ 40 := by
  cases h : relOk n rows
  · simp [rsN]
  · exact (relIn_of h).size
theorem rsN_le2 {n : Int} {rows : List (List Int)} {m : Int} {rows' : List (List Int)} : rsN (alike n rows m rows') rows ≤ 40 := by
  cases h : alike n rows m rows'
  · simp [rsN]
  · exact (alike_in h).1.size

end Go.Proofs.Ytgockgehbnekbaa
namespace Go.Proofs.Ytgockgehbnekbaa
open Go.Lg
set_option maxHeartbeats 1600000
set_option maxRecDepth 10000
set_option linter.unusedVariables false
set_option linter.unusedSimpArgs false

def zPr : LV := .st [.int .i64 0, .int .i64 0]
abbrev shPairs : Sh := .sl (.st [.int .i64, .int .i64])
theorem prs_of : ∀ (xs : List LV), (∀ x ∈ xs, hasSh (.st [.int .i64, .int .i64]) x) → ∃ ps : List Pr, xs = ps.map Pr.lv
  | [], _ => ⟨[], rfl⟩
  | x :: xs, h => by
    obtain ⟨ps, rfl⟩ := prs_of xs fun y hy => h y (by simp [hy])
    have h1 := h x (by simp)
    simp only [hasSh] at h1
    obtain ⟨ys, rfl, h2⟩ := h1
    match ys, h2 with
    | [a, b], h2 =>
      simp only [hasShs, hasSh] at h2
      obtain ⟨⟨a, rfl⟩, ⟨b, rfl⟩, _⟩ := h2
      exact ⟨⟨a, b⟩ :: ps, rfl⟩
    | [], h2 => simp [hasShs] at h2
    | [_], h2 => simp [hasShs] at h2
    | _ :: _ :: _ :: _, h2 => simp [hasShs] at h2
theorem pairs_of_sh {x : LV} (h : hasSh shPairs x) : ∃ ps : List Pr, x = .sl (ps.map Pr.lv) ∧ ps.length ≤ Go.maxLen := by
  simp only [hasSh] at h
  obtain ⟨xs, rfl, hl, h⟩ := h
  obtain ⟨ps, rfl⟩ := prs_of xs fun x hx => by simp only [hasSh]; exact h x hx
  exact ⟨ps, rfl, by simpa using hl⟩

/-- What pairs say, the first k of them. -/
def prTk (ps : List Pr) (k : Nat) : Nat → Nat → Bool := fun a b => decide (∃ p ∈ ps.take k, p.a = (a : Int) ∧ p.b = (b : Int))
def prInB (n : Int) (p : Pr) : Bool := (leI 0 p.a && ltI p.a n) && (leI 0 p.b && ltI p.b n)
def prOk (n : Int) (ps : List Pr) : Bool := (leI 0 n && leI n 40) && ps.all (prInB n)
def prN (n : Int) (ps : List Pr) : Nat := match prOk n ps with | true => n.toNat | false => 0
theorem prTk_zero (ps : List Pr) : prTk ps 0 = fun _ _ => false := by funext a b; simp [prTk]
theorem prTk_succ {ps : List Pr} {k a b : Nat} (hk : k < ps.length) (e : ps[k] = ⟨(a : Int), (b : Int)⟩) : putP (prTk ps k) a b true = prTk ps (k + 1) := by
  funext x y
  have ht : ps.take (k + 1) = ps.take k ++ [⟨(a : Int), (b : Int)⟩] := by rw [List.take_succ_eq_append_getElem hk, e]
  unfold putP prTk
  by_cases h : x = a ∧ y = b
  · obtain ⟨rfl, rfl⟩ := h
    rw [if_pos ⟨rfl, rfl⟩]
    exact (decide_eq_true ⟨⟨(x : Int), (y : Int)⟩, by rw [ht]; simp, rfl, rfl⟩).symm
  · rw [if_neg h, decide_eq_decide]
    constructor
    · rintro ⟨p, h1, h2⟩; exact ⟨p, by rw [ht]; exact List.mem_append_left _ h1, h2⟩
    · rintro ⟨p, h1, h2, h3⟩
      rw [ht, List.mem_append, List.mem_singleton] at h1
      rcases h1 with h1 | rfl
      · exact ⟨p, h1, h2, h3⟩
      · exact absurd ⟨by simp at h2; omega, by simp at h3; omega⟩ h
theorem prInB_nat {N : Nat} {p : Pr} (h : prInB (N : Int) p = true) : ∃ a b : Nat, p = ⟨(a : Int), (b : Int)⟩ ∧ a < N ∧ b < N := by
  unfold prInB at h
  simp only [Bool.and_eq_true, leI_t, ltI_t] at h
  cases p with
  | mk pa pb => exact ⟨pa.toNat, pb.toNat, by simp at h ⊢; omega, by simp at h; omega, by simp at h; omega⟩
theorem prNo {n : Int} {ps : List Pr} {p : Pr} (hp : p ∈ ps) (h : prInB n p = false) : prOk n ps = false := by
  unfold prOk
  rw [Bool.and_eq_false_iff]
  right
  rw [List.all_eq_false]
  exact ⟨p, hp, by rw [h]; simp⟩
theorem prSz {n : Int} {ps : List Pr} (h : notB (leI 0 n && leI n 40) = true) : prOk n ps = false := by
  unfold prOk; rw [notB_t] at h; rw [h]; rfl

theorem implRelationOf_h (n : Int) (ps : List Pr) (hm : ps.length ≤ Go.maxLen) :
    HSpec env.P 69 [.int .i64 n, .sl (ps.map Pr.lv)] [] (.tup [relHS (prN n ps) 0 ((relRows (prN n ps) (prTk ps ps.length)).map rowOw).length, .bool (prOk n ps)]) [.tree 92 1 ((relRows (prN n ps) (prTk ps ps.length)).map rowOw)] := by
  refine HSpec_of_code (E := env.x [107, 142] 0) env_ok.x (fn := Try.f69) Try.func69 rfl Try.call69 _ _ _ _ ?_
  ((repeat ((conv => whnf); first | refine brT ?_ | refine brF ?_)); conv => whnf)
  refine ⟨_, isSize_spec n, ?_⟩
  ((repeat ((conv => whnf); first | refine brT ?_ | refine brF ?_)); conv => whnf)
  (refine ⟨fun h => ?_, fun h => ?_⟩ <;> rw [h])
  · have e : prOk n ps = false := prSz h
    rw [show prN n ps = 0 by unfold prN; rw [e], e]
    ((repeat ((conv => whnf); first | refine brT ?_ | refine brF ?_)); conv => whnf)
    exact ⟨[relHS 0 0 0, .bool false], rfl, rfl, .nl [.tmp 0 [1] true 92 1] [.old 1] ⟨⟨rfl, rfl, rfl, rfl, trivial⟩, ⟨rfl, rfl, trivial⟩, rfl⟩⟩
  obtain ⟨h0, h1⟩ := isSize_ok h
  obtain ⟨N, rfl⟩ : ∃ N : Nat, n = (N : Int) := ⟨n.toNat, by omega⟩
  have hN : N ≤ 40 := by omega
  ((repeat ((conv => whnf); first | refine brT ?_ | refine brF ?_)); conv => whnf)
  refine ⟨N, rfl, rfl, by show 8 * N ≤ _; omega, by unfold Go.maxLen; omega, rfl, by decide, ?_⟩
  have ez : List.replicate N (LV.int .u64 0) = (setsP N (prTk ps 0)).map uLV := by rw [prTk_zero, ← setsP_zero]; simp [uLV]
  ((repeat ((conv => whnf); first | refine brT ?_ | refine brF ?_)); conv => whnf)
  rw [ez]
  intro _
  ((repeat ((conv => whnf); first | refine brT ?_ | refine brF ?_)); conv => whnf)
  refine loop_rule (α := Nat) (fun k => [(17, .int .i64 (k : Int))]) (fun k => [.box (.st [.int .i64 0, .nil]), .arr 139 1 ((setsP N (prTk ps k)).map uLV)]) (fun k => ps.length - k) (fun k => k ≤ ps.length ∧ ∀ p ∈ ps.take k, prInB N p = true) 0 ⟨Nat.zero_le _, fun p hp => by simp at hp⟩ ?_ ?_
  · refine ⟨?_, ⟨rfl, rfl, trivial⟩, rfl, rfl⟩
    ((repeat ((conv => whnf); refine ⟨rfl, ?_⟩)); trivial)
  rintro k ⟨hk, he⟩
  ((repeat ((conv => whnf); first | refine brT ?_ | refine brF ?_)); conv => whnf)
  (refine ⟨fun g1 => ?_, fun g1 => ?_⟩ <;> rw [g1])
  · have hlt : k < ps.length := by rw [ltI_t] at g1; simp at g1; omega
    have e1 := step_i hlt hm
    have hmem : ps[k] ∈ ps := List.getElem_mem hlt
    ((repeat ((conv => whnf); first | refine brT ?_ | refine brF ?_)); conv => whnf)
    refine ⟨k, ps[k].lv, rfl, by simp [hlt], rfl, ?_⟩
    ((repeat ((conv => whnf); first | refine brT ?_ | refine brF ?_)); conv => whnf)
    refine ⟨_, isBelow_spec ps[k].a N, ?_⟩
    ((repeat ((conv => whnf); first | refine brT ?_ | refine brF ?_)); conv => whnf)
    (refine ⟨fun g2 => ?_, fun g2 => ?_⟩ <;> rw [g2])
    · rw [notB_t] at g2
      have e : prOk N ps = false := prNo hmem (by unfold prInB; rw [g2]; rfl)
      rw [show prN N ps = 0 by unfold prN; rw [e], e]
      ((repeat ((conv => whnf); first | refine brT ?_ | refine brF ?_)); conv => whnf)
      exact ⟨[relHS 0 0 0, .bool false], rfl, rfl, .nl [.tmp 0 [1] true 92 1] [.old 3] ⟨⟨rfl, rfl, rfl, rfl, trivial⟩, ⟨rfl, rfl, trivial⟩, rfl⟩⟩
    rw [notB_f] at g2
    ((repeat ((conv => whnf); first | refine brT ?_ | refine brF ?_)); conv => whnf)
    refine ⟨_, isBelow_spec ps[k].b N, ?_⟩
    ((repeat ((conv => whnf); first | refine brT ?_ | refine brF ?_)); conv => whnf)
    (refine ⟨fun g3 => ?_, fun g3 => ?_⟩ <;> rw [g3])
    · rw [notB_t] at g3
      have e : prOk N ps = false := prNo hmem (by unfold prInB; rw [g3]; simp)
      rw [show prN N ps = 0 by unfold prN; rw [e], e]
      ((repeat ((conv => whnf); first | refine brT ?_ | refine brF ?_)); conv => whnf)
      exact ⟨[relHS 0 0 0, .bool false], rfl, rfl, .nl [.tmp 0 [1] true 92 1] [.old 3] ⟨⟨rfl, rfl, rfl, rfl, trivial⟩, ⟨rfl, rfl, trivial⟩, rfl⟩⟩
    rw [notB_f] at g3
    have hin : prInB N ps[k] = true := by unfold prInB; rw [g2, g3]; rfl
    obtain ⟨a, b, hpk, ha, hb⟩ := prInB_nat hin
    have hput := prTk_succ hlt hpk
    have he2 : ∀ p ∈ ps.take (k + 1), prInB N p = true := by
      intro p hp
      rw [List.take_succ_eq_append_getElem hlt, List.mem_append, List.mem_singleton] at hp
      rcases hp with hp | rfl
      · exact he p hp
      · exact hin
    rw [hpk]
    ((repeat ((conv => whnf); first | refine brT ?_ | refine brF ?_)); conv => whnf)
    refine ⟨false, 6, by kernel_rfl, ?_⟩
    ((repeat ((conv => whnf); first | refine brT ?_ | refine brF ?_)); conv => whnf)
    refine ⟨by simp [setsP_len], rfl, a, rfl, by simpa [setsP_len] using ha, ?_⟩
    ((repeat ((conv => whnf); first | refine brT ?_ | refine brF ?_)); conv => whnf)
    refine ⟨[1], _, _, _, _, add_elem N (prTk ps k) a b ha hb hN N (by simp [setsP_len]), rfl, ?_⟩
    ((repeat ((conv => whnf); first | refine brT ?_ | refine brF ?_)); conv => whnf)
    refine ⟨rfl, rfl, trivial, ?_⟩
    ((repeat ((conv => whnf); first | refine brT ?_ | refine brF ?_)); conv => whnf)
    refine round_end (k + 1) ⟨hlt, he2⟩ (by omega) ⟨?_, ⟨rfl, congrArg (fun P => Blk.arr 139 1 ((setsP N P).map uLV)) hput, trivial⟩, rfl, rfl⟩
    ((repeat ((conv => whnf); first | refine ⟨e1, ?_⟩ | refine ⟨rfl, ?_⟩)); trivial)
  · have h3 : k = ps.length := by rw [ltI_f] at g1; simp at g1; omega
    subst h3
    rw [List.take_length] at he
    have e : prOk N ps = true := by
      unfold prOk
      rw [notB_f] at h
      rw [h, Bool.true_and, List.all_eq_true]; exact he
    rw [show prN N ps = N by unfold prN; rw [e]; simp, e]
    ((repeat ((conv => whnf); first | refine brT ?_ | refine brF ?_)); conv => whnf)
    refine ⟨[], _, _, _, _, relationOfSets_P N (prTk ps ps.length) hN, rfl, ?_⟩
    ((repeat ((conv => whnf); first | refine brT ?_ | refine brF ?_)); conv => whnf)
    refine ⟨by simp [setsP_len], ?_⟩
    ((repeat ((conv => whnf); first | refine brT ?_ | refine brF ?_)); conv => whnf)
    refine ⟨rfl, rfl, ⟨rfl, flatTs_rows _, trivial⟩, ?_⟩
    ((repeat ((conv => whnf); first | refine brT ?_ | refine brF ?_)); conv => whnf)
    refine ⟨[relHS N 0 ((relRows N (prTk ps ps.length)).map rowOw).length, .bool true], rfl, rfl, .inr ⟨[.old 2], ⟨rfl, rfl, rfl, rfl, trivial⟩, ⟨rfl, rfl, trivial⟩, rfl⟩⟩

theorem prN_le {n : Int} {ps : List Pr} : prN n ps ≤ 40 := by
  unfold prN
  split
  · rename_i h
    unfold prOk at h
    simp only [Bool.and_eq_true, leI_t] at h
    omega
  · omega

end Go.Proofs.Ytgockgehbnekbaa
namespace Go.Proofs.Ytgockgehbnekbaa
open Go.Lg
set_option maxHeartbeats 1600000
set_option maxRecDepth 10000
set_option linter.unusedVariables false
set_option linter.unusedSimpArgs false

/-! What is drawn out of a code. -/
def buLV (n : Int) : LV := .int .u8 n
def at0 (bs : List Nat) : Int := match bs with | b :: _ => (b : Int) | [] => 0
theorem at_spec (bs : List Nat) (hb : ∀ b ∈ bs, b < 256) : FSpec env.P 57 [.sl (bs.map byLV), .int .i64 0] (.int .i64 (at0 bs)) := by
  refine FSpec_of_code env_ok (fn := Try.f57) Try.func57 rfl Try.call57 _ _ ?_
  ((repeat ((conv => whnf); first | refine brT ?_ | refine brF ?_)); conv => whnf)
  intro hm
  rw [List.length_map]
  ((repeat ((conv => whnf); first | refine brT ?_ | refine brF ?_)); conv => whnf)
  (refine ⟨fun h => ?_, fun h => ?_⟩ <;> rw [h])
  · match bs, h, hb with
    | b :: bs, h, hb =>
      have hb' := hb b (by simp)
      ((repeat ((conv => whnf); first | refine brT ?_ | refine brF ?_)); conv => whnf)
      refine ⟨0, byLV b, rfl, rfl, rfl, ?_⟩
      ((repeat ((conv => whnf); first | refine brT ?_ | refine brF ?_)); conv => whnf)
      exact ⟨rfl, wrap64 (by omega) (by omega), List.nodup_nil⟩
    | [], h, _ => simp [ltI_t] at h
  · match bs, h with
    | [], h =>
      ((repeat ((conv => whnf); first | refine brT ?_ | refine brF ?_)); conv => whnf)
      intro _
      ((repeat ((conv => whnf); first | refine brT ?_ | refine brF ?_)); conv => whnf)
      refine ⟨by decide, ?_⟩
      ((repeat ((conv => whnf); first | refine brT ?_ | refine brF ?_)); conv => whnf)
      exact ⟨rfl, by decide, List.nodup_nil⟩
    | b :: bs, h => simp [ltI_f] at h; omega

def frB (xs : List Int) (s : Int) (i : Nat) : Int :=
  IntKind.u8.wrap (IntKind.i64.wrap (IntKind.i64.wrap (IntKind.i64.wrap (xs.getD i 0) * 3) + IntKind.i64.wrap (s * IntKind.i64.wrap ((i : Int).tmod 7 + 1))))
def frTo (xs : List Int) (s : Int) (k : Nat) : List Int := IntKind.u8.wrap s :: (List.range k).map (frB xs s)
theorem frTo_succ (xs : List Int) (s : Int) (k : Nat) : frTo xs s (k + 1) = frTo xs s k ++ [frB xs s k] := by simp [frTo, List.range_succ]
theorem frTo_len (xs : List Int) (s : Int) (k : Nat) : (frTo xs s k).length = k + 1 := by simp [frTo]
def frN (xs : List Int) : Nat := min xs.length 600
theorem fresh_h (xs : List Int) (s : Int) : HSpec env.P 59 [.sl (xs.map buLV), .int .i64 s] [] (.hs 0 ((frTo xs s (frN xs)).map buLV).length) [.arr 5 1 ((frTo xs s (frN xs)).map buLV)] := by
  refine HSpec_of_code (E := env.x [] 0) env_ok.x (fn := Try.f59) Try.func59 rfl Try.call59 _ _ _ _ ?_
  ((repeat ((conv => whnf); first | refine brT ?_ | refine brF ?_)); conv => whnf)
  refine loop_ruleR (α := Nat) [.old 0] (fun k => [(9, .undef), (6, .int .i64 (k : Int)), (5, .hs 0 ((frTo xs s k).map buLV).length)]) (fun k => [.arr 5 1 ((frTo xs s k).map buLV)])
    (fun k => xs.length - k) (fun k => k ≤ xs.length ∧ k ≤ 600) 0 ⟨Nat.zero_le _, by omega⟩ ?_ ?_
  · refine ⟨?_, ⟨rfl, rfl, trivial⟩, rfl⟩
    ((repeat ((conv => whnf); refine ⟨rfl, rfl, ?_⟩)); trivial)
  rintro k ⟨hk, h6⟩
  ((repeat ((conv => whnf); first | refine brT ?_ | refine brF ?_)); conv => whnf)
  intro hm
  have hm' : xs.length ≤ Go.maxLen := by simpa using hm
  rw [show (List.map buLV xs).length = xs.length by simp]
  ((repeat ((conv => whnf); first | refine brT ?_ | refine brF ?_)); conv => whnf)
  (refine ⟨fun h1 => ?_, fun h1 => ?_⟩ <;> rw [h1])
  · have hlt : k < xs.length := by rw [ltI_t] at h1; omega
    ((repeat ((conv => whnf); first | refine brT ?_ | refine brF ?_)); conv => whnf)
    (refine ⟨fun h2 => ?_, fun h2 => ?_⟩ <;> rw [h2])
    · have hl6 : k < 600 := by rw [ltI_t] at h2; omega
      have e : LV.int .i64 (IntKind.i64.wrap ((k : Int) + 1)) = LV.int .i64 ((k + 1 : Nat) : Int) := step_i hlt hm'
      have e2 : (frTo xs s k).map buLV ++ [LV.int .u8 (frB xs s k)] = (frTo xs s (k + 1)).map buLV := by rw [frTo_succ, List.map_append]; rfl
      have e3 : LV.hs 0 ((frTo xs s k).map buLV ++ [LV.int .u8 (frB xs s k)]).length = LV.hs 0 ((frTo xs s (k + 1)).map buLV).length := by rw [e2]
      have hg : xs.getD k 0 = xs[k] := by simp [List.getD_eq_getElem?_getD, hlt]
      ((repeat ((conv => whnf); first | refine brT ?_ | refine brF ?_)); conv => whnf)
      refine ⟨k, buLV xs[k], rfl, by simp [hlt], rfl, ?_⟩
      ((repeat ((conv => whnf); first | refine brT ?_ | refine brF ?_)); conv => whnf)
      refine ⟨by decide, ?_⟩
      rw [← hg]
      ((repeat ((conv => whnf); first | refine brT ?_ | refine brF ?_)); conv => whnf)
      refine ⟨rfl, rfl, ?_, ?_, ?_⟩
      · show (_ ++ [LV.int .u8 (frB xs s k)]).length ≤ _
        rw [e2]; simp [frTo_len, Go.maxLen]; omega
      · show (_ ++ [LV.int .u8 (frB xs s k)]).length * _ ≤ _
        rw [e2]; simp [frTo_len]; omega
      ((repeat ((conv => whnf); first | refine brT ?_ | refine brF ?_)); conv => whnf)
      refine round_endR [.old 2] (k + 1) ⟨hlt, hl6⟩ (by show xs.length - (k + 1) < xs.length - k; omega) ⟨?_, ⟨rfl, congrArg (Blk.arr 5 1) e2, trivial⟩, rfl⟩
      repeat ((conv => whnf); first | refine ⟨rfl, e, ?_⟩ | refine ⟨rfl, e3, ?_⟩ | refine ⟨rfl, rfl, ?_⟩)
      trivial
    · have h3 : k = frN xs := by rw [ltI_f] at h2; unfold frN; omega
      subst h3
      ((repeat ((conv => whnf); first | refine brT ?_ | refine brF ?_)); conv => whnf)
      exact ⟨[.hs 0 ((frTo xs s (frN xs)).map buLV).length], rfl, rfl, .inl ⟨⟨rfl, trivial⟩, ⟨rfl, trivial⟩, rfl, rfl⟩⟩
  · have h3 : k = frN xs := by rw [ltI_f] at h1; unfold frN; omega
    subst h3
    ((repeat ((conv => whnf); first | refine brT ?_ | refine brF ?_)); conv => whnf)
    exact ⟨[.hs 0 ((frTo xs s (frN xs)).map buLV).length], rfl, rfl, .inl ⟨⟨rfl, trivial⟩, ⟨rfl, trivial⟩, rfl, rfl⟩⟩
theorem fresh_f (xs : List Int) (s : Int) : FSpec env.P 59 [.sl (xs.map buLV), .int .i64 s] (.own 5 1 ((frTo xs s (frN xs)).map buLV)) :=
  FSpec_of_HSpec (fresh_h xs s) (by simp only [exW]; exact ⟨rfl, rfl, rfl, rfl, by simp⟩)

def hshL (xs : List Int) : Nat → Int
  | 0 => IntKind.i64.wrap (3221 + (xs.length : Int))
  | k + 1 => andI .i64 (IntKind.i64.wrap (IntKind.i64.wrap (IntKind.i64.wrap (hshL xs k * 1103) + IntKind.i64.wrap (xs.getD k 0)) + 7)) 1073741823
def hshN (xs : List Int) : Nat := min xs.length 4000
def curLV (xs : List Int) (i : Nat) (h : Int) : LV := .st [.sl (xs.map buLV), .int .i64 (i : Int), .int .i64 h]
theorem l01New_h (xs : List Int) : HSpec env.P 134 [.sl (xs.map buLV)] [] (.hp 0 0 []) [.box (curLV xs 0 (hshL xs (hshN xs)))] := by
  refine HSpec_of_code (E := env.x [] 0) env_ok.x (fn := Try.f134) Try.func134 rfl Try.call134 _ _ _ _ ?_
  ((repeat ((conv => whnf); first | refine brT ?_ | refine brF ?_)); conv => whnf)
  intro hm
  have hm' : xs.length ≤ Go.maxLen := by simpa using hm
  rw [List.length_map]
  ((repeat ((conv => whnf); first | refine brT ?_ | refine brF ?_)); conv => whnf)
  refine loop_rule (α := Nat) (fun k => [(4, .int .i64 (k : Int)), (3, .int .i64 (hshL xs k))]) (fun k => [])
    (fun k => xs.length - k) (fun k => k ≤ xs.length ∧ k ≤ 4000) 0 ⟨Nat.zero_le _, by omega⟩ ?_ ?_
  · refine ⟨?_, trivial, rfl, rfl⟩
    ((repeat ((conv => whnf); refine ⟨rfl, ?_⟩)); trivial)
  rintro k ⟨hk, h6⟩
  ((repeat ((conv => whnf); first | refine brT ?_ | refine brF ?_)); conv => whnf)
  intro _
  rw [List.length_map]
  ((repeat ((conv => whnf); first | refine brT ?_ | refine brF ?_)); conv => whnf)
  (refine ⟨fun h1 => ?_, fun h1 => ?_⟩ <;> rw [h1])
  · have hlt : k < xs.length := by rw [ltI_t] at h1; omega
    ((repeat ((conv => whnf); first | refine brT ?_ | refine brF ?_)); conv => whnf)
    (refine ⟨fun h2 => ?_, fun h2 => ?_⟩ <;> rw [h2])
    · have hl6 : k < 4000 := by rw [ltI_t] at h2; omega
      have e : LV.int .i64 (IntKind.i64.wrap ((k : Int) + 1)) = LV.int .i64 ((k + 1 : Nat) : Int) := step_i hlt hm'
      have hg : xs.getD k 0 = xs[k] := by simp [List.getD_eq_getElem?_getD, hlt]
      ((repeat ((conv => whnf); first | refine brT ?_ | refine brF ?_)); conv => whnf)
      refine ⟨k, buLV xs[k], rfl, by simp [hlt], rfl, ?_⟩
      rw [← hg]
      ((repeat ((conv => whnf); first | refine brT ?_ | refine brF ?_)); conv => whnf)
      refine round_end (k + 1) ⟨hlt, hl6⟩ (by show xs.length - (k + 1) < xs.length - k; omega) ⟨?_, trivial, rfl, rfl⟩
      ((repeat ((conv => whnf); first | refine ⟨e, ?_⟩ | refine ⟨rfl, ?_⟩)); trivial)
    · have h3 : k = hshN xs := by rw [ltI_f] at h2; unfold hshN; omega
      subst h3
      ((repeat ((conv => whnf); first | refine brT ?_ | refine brF ?_)); conv => whnf)
      exact ⟨[.hp 0 0 []], rfl, rfl, .inl ⟨⟨rfl, trivial⟩, ⟨rfl, trivial⟩, rfl, rfl⟩⟩
  · have h3 : k = hshN xs := by rw [ltI_f] at h1; unfold hshN; omega
    subst h3
    ((repeat ((conv => whnf); first | refine brT ?_ | refine brF ?_)); conv => whnf)
    exact ⟨[.hp 0 0 []], rfl, rfl, .inl ⟨⟨rfl, trivial⟩, ⟨rfl, trivial⟩, rfl, rfl⟩⟩

theorem andI_255 (a : Int) : 0 ≤ andI .i64 a 255 ∧ andI .i64 a 255 < 256 := by
  unfold andI
  have h : (BitVec.ofInt IntKind.i64.bits a &&& BitVec.ofInt IntKind.i64.bits 255).toNat ≤ 255 := by
    rw [BitVec.toNat_and]
    refine Nat.le_trans Nat.and_le_right ?_
    decide
  rw [wrap64 (by omega) (by omega)]
  omega
/-- The next byte, and what the cursor is behind it. -/
def byH (h : Int) : Int := IntKind.i64.wrap (IntKind.i64.wrap (h * 6364136223846793005) + 1442695040888963407)
def byX (h : Int) : Int := andI .i64 (xorI .i64 (shrI .i64 (byH h) 33) (shrI .i64 (byH h) 45)) 255
def byV (xs : List Int) (c : Nat × Int) : Int := match xs[c.1]? with | some b => andI .i64 (IntKind.i64.wrap (byX c.2 + IntKind.i64.wrap b)) 255 | none => byX c.2
def byN (xs : List Int) (c : Nat × Int) : Nat × Int := (match xs[c.1]? with | some _ => c.1 + 1 | none => c.1, byH c.2)
theorem byV_range (xs : List Int) (c : Nat × Int) : 0 ≤ byV xs c ∧ byV xs c < 256 := by
  unfold byV
  split
  · exact andI_255 _
  · exact andI_255 _
theorem l01Byte_h (xs : List Int) (c : Nat × Int) : HSpec env.P 220 [.hp 0 0 []] [.box (curLV xs c.1 c.2)] (.int .i64 (byV xs c)) [.box (curLV xs (byN xs c).1 (byN xs c).2)] := by
  obtain ⟨i, h⟩ := c
  refine HSpec_of_code (E := env.x [] 1) env_ok.x (fn := Try.f220) Try.func220 rfl Try.call220 _ _ _ _ ?_
  ((repeat ((conv => whnf); first | refine brT ?_ | refine brF ?_)); conv => whnf)
  refine ⟨true, by kernel_rfl, ?_⟩
  ((repeat ((conv => whnf); first | refine brT ?_ | refine brF ?_)); conv => whnf)
  refine ⟨by decide, ?_⟩
  ((repeat ((conv => whnf); first | refine brT ?_ | refine brF ?_)); conv => whnf)
  refine ⟨by decide, ?_⟩
  ((repeat ((conv => whnf); first | refine brT ?_ | refine brF ?_)); conv => whnf)
  refine ⟨true, by kernel_rfl, ?_⟩
  ((repeat ((conv => whnf); first | refine brT ?_ | refine brF ?_)); conv => whnf)
  intro hm
  have hm' : xs.length ≤ Go.maxLen := by simpa using hm
  rw [List.length_map]
  ((repeat ((conv => whnf); first | refine brT ?_ | refine brF ?_)); conv => whnf)
  (refine ⟨fun h1 => ?_, fun h1 => ?_⟩ <;> rw [h1])
  · have hlt : i < xs.length := by rw [ltI_t] at h1; omega
    have e1 : LV.int .i64 (IntKind.i64.wrap ((i : Int) + 1)) = LV.int .i64 ((i + 1 : Nat) : Int) := step_i hlt hm'
    have hg : xs[i]? = some xs[i] := List.getElem?_eq_getElem hlt
    ((repeat ((conv => whnf); first | refine brT ?_ | refine brF ?_)); conv => whnf)
    refine ⟨true, by kernel_rfl, ?_⟩
    ((repeat ((conv => whnf); first | refine brT ?_ | refine brF ?_)); conv => whnf)
    refine ⟨i, buLV xs[i], rfl, by simp [hlt], rfl, ?_⟩
    ((repeat ((conv => whnf); first | refine brT ?_ | refine brF ?_)); conv => whnf)
    refine ⟨[.int .i64 (byV xs (i, h))], rfl, rfl, .inl ⟨⟨by simp only [byV, hg]; rfl, trivial⟩, ⟨?_, trivial⟩, rfl, rfl⟩⟩
    simp only [byN, hg]
    show Blk.box (LV.st [_, LV.int .i64 (IntKind.i64.wrap ((i : Int) + 1)), _]) = _
    rw [e1]; rfl
  · have hge : xs.length ≤ i := by rw [ltI_f] at h1; omega
    have hg : xs[i]? = none := List.getElem?_eq_none hge
    ((repeat ((conv => whnf); first | refine brT ?_ | refine brF ?_)); conv => whnf)
    refine ⟨[.int .i64 (byV xs (i, h))], rfl, rfl, .inl ⟨⟨by simp only [byV, hg]; rfl, trivial⟩, ⟨?_, trivial⟩, rfl, rfl⟩⟩
    simp only [byN, hg]; rfl
theorem l01Below_h (xs : List Int) (c : Nat × Int) (n : Int) (h0 : 0 < n) (h1 : n ≤ 256) : HSpec env.P 211 [.hp 0 0 [], .int .i64 n] [.box (curLV xs c.1 c.2)] (.int .i64 ((byV xs c).tmod n)) [.box (curLV xs (byN xs c).1 (byN xs c).2)] := by
  refine HSpec_of_code (E := env.x [220] 1) env_ok.x (fn := Try.f211) Try.func211 rfl Try.call211 _ _ _ _ ?_
  ((repeat ((conv => whnf); first | refine brT ?_ | refine brF ?_)); conv => whnf)
  rw [show leI n 0 = false by rw [leI_f]; omega]
  ((repeat ((conv => whnf); first | refine brT ?_ | refine brF ?_)); conv => whnf)
  rw [show leI n 256 = true by rw [leI_t]; omega]
  ((repeat ((conv => whnf); first | refine brT ?_ | refine brF ?_)); conv => whnf)
  refine ⟨[0], _, _, _, _, l01Byte_h xs c, rfl, rfl, rfl, trivial, ?_⟩
  ((repeat ((conv => whnf); first | refine brT ?_ | refine brF ?_)); conv => whnf)
  refine ⟨by omega, ?_⟩
  ((repeat ((conv => whnf); first | refine brT ?_ | refine brF ?_)); conv => whnf)
  exact ⟨[.int .i64 ((byV xs c).tmod n)], rfl, rfl, .inl ⟨⟨rfl, trivial⟩, ⟨rfl, trivial⟩, rfl, rfl⟩⟩
theorem l01Once_h (xs : List Int) (c : Nat × Int) (n : Int) (h0 : 0 < n) (h1 : n ≤ 256) : HSpec env.P 182 [.hp 0 0 [], .int .i64 n] [.box (curLV xs c.1 c.2)] (.bool (eqI ((byV xs c).tmod n) 0)) [.box (curLV xs (byN xs c).1 (byN xs c).2)] := by
  refine HSpec_of_code (E := env.x [211] 1) env_ok.x (fn := Try.f182) Try.func182 rfl Try.call182 _ _ _ _ ?_
  ((repeat ((conv => whnf); first | refine brT ?_ | refine brF ?_)); conv => whnf)
  refine ⟨[0], _, _, _, _, l01Below_h xs c n h0 h1, rfl, rfl, rfl, trivial, ?_⟩
  ((repeat ((conv => whnf); first | refine brT ?_ | refine brF ?_)); conv => whnf)
  exact ⟨[.bool (eqI ((byV xs c).tmod n) 0)], rfl, rfl, .inl ⟨⟨rfl, trivial⟩, ⟨rfl, trivial⟩, rfl, rfl⟩⟩
theorem l01Int_h (xs : List Int) (c : Nat × Int) (l : List Int) (h0 : 0 < l.length) (h1 : l.length ≤ 256) (n : Nat) (hn : n = (l.map intLV).length) :
    HSpec env.P 181 [.hp 0 0 [], .hs 1 n] [.box (curLV xs c.1 c.2), .arr 3 1 (l.map intLV)] (.int .i64 (l.getD ((byV xs c).tmod l.length).toNat 0)) [.box (curLV xs (byN xs c).1 (byN xs c).2), .arr 3 1 (l.map intLV)] := by
  subst hn
  refine HSpec_of_code (E := env.x [211] 2) env_ok.x (fn := Try.f181) Try.func181 rfl Try.call181 _ _ _ _ ?_
  ((repeat ((conv => whnf); first | refine brT ?_ | refine brF ?_)); conv => whnf)
  refine ⟨rfl, fun _ => ?_⟩
  rw [show (List.map intLV l).length = l.length by simp]
  ((repeat ((conv => whnf); first | refine brT ?_ | refine brF ?_)); conv => whnf)
  refine ⟨[0], _, _, _, _, l01Below_h xs c (l.length : Int) (by omega) (by omega), rfl, rfl, rfl, trivial, ?_⟩
  obtain ⟨r0, r1⟩ := byV_range xs c
  have t0 : 0 ≤ (byV xs c).tmod l.length := Int.tmod_nonneg _ r0
  have t1 : (byV xs c).tmod l.length < l.length := Int.tmod_lt_of_pos _ (by omega)
  generalize (byV xs c).tmod l.length = q at t0 t1 ⊢
  ((repeat ((conv => whnf); first | refine brT ?_ | refine brF ?_)); conv => whnf)
  have hlt : q.toNat < l.length := by omega
  refine ⟨by simp, rfl, q.toNat, by omega, by simpa using hlt, ?_⟩
  ((repeat ((conv => whnf); first | refine brT ?_ | refine brF ?_)); conv => whnf)
  refine ⟨by simp, by simp, intLV l[q.toNat], by simp [getP, hlt], rfl, ?_⟩
  ((repeat ((conv => whnf); first | refine brT ?_ | refine brF ?_)); conv => whnf)
  exact ⟨[.int .i64 (l.getD q.toNat 0)], rfl, rfl, .inl ⟨⟨by rw [List.getD_eq_getElem?_getD, List.getElem?_eq_getElem hlt]; rfl, trivial⟩, ⟨rfl, rfl, trivial⟩, rfl, rfl⟩⟩
end Go.Proofs.Ytgockgehbnekbaa

namespace Go.Proofs.Ytgockgehbnekbaa
open Go.Lg
set_option maxHeartbeats 1600000
set_option maxRecDepth 10000
set_option linter.unusedVariables false
set_option linter.unusedSimpArgs false

def curs (xs : List Int) (c : Nat × Int) : Nat → Nat × Int
  | 0 => c
  | t + 1 => byN xs (curs xs c t)
def dns (xs : List Int) (c : Nat × Int) : Int := [2, 4, 9].getD ((byV xs c).tmod 3).toNat 0
theorem dns_range (xs : List Int) (c : Nat × Int) : 0 < dns xs c ∧ dns xs c ≤ 256 := by
  unfold dns
  obtain ⟨r0, r1⟩ := byV_range xs c
  have t0 : 0 ≤ (byV xs c).tmod 3 := Int.tmod_nonneg _ r0
  have t1 : (byV xs c).tmod 3 < 3 := Int.tmod_lt_of_pos _ (by omega)
  generalize (byV xs c).tmod 3 = q at t0 t1
  have : q = 0 ∨ q = 1 ∨ q = 2 := by omega
  rcases this with rfl | rfl | rfl <;> decide
def cellV (xs : List Int) (c : Nat × Int) (N a b : Nat) : Bool := eqI ((byV xs (curs xs c (1 + a * N + b))).tmod (dns xs c)) 0
def drP (xs : List Int) (c : Nat × Int) (N k i : Nat) : Nat → Nat → Bool := fun a b => decide ((a < k ∧ b < N) ∨ (a = k ∧ b < i)) && cellV xs c N a b
theorem drP_zero (xs : List Int) (c : Nat × Int) (N : Nat) : drP xs c N 0 0 = fun _ _ => false := by funext a b; simp [drP]
theorem drP_put {xs : List Int} {c : Nat × Int} {N k i : Nat} (hi : i < N) : putP (drP xs c N k i) k i (cellV xs c N k i) = drP xs c N k (i + 1) := by
  funext a b
  unfold putP drP
  by_cases h : a = k ∧ b = i
  · obtain ⟨rfl, rfl⟩ := h; simp
  · rw [if_neg h]
    congr 1
    rw [decide_eq_decide]
    constructor
    · rintro (h1 | h1)
      · exact .inl h1
      · exact .inr ⟨h1.1, by omega⟩
    · rintro (h1 | h1)
      · exact .inl h1
      · exact .inr ⟨h1.1, by omega⟩
theorem drP_row (xs : List Int) (c : Nat × Int) (N k : Nat) : drP xs c N k N = drP xs c N (k + 1) 0 := by
  funext a b
  unfold drP
  congr 1
  rw [decide_eq_decide]
  omega
theorem l2Draw_h (xs : List Int) (c : Nat × Int) (N : Nat) (hN : N ≤ 40) :
    HSpec env.P 133 [.hp 0 0 [], .int .i64 (N : Int)] [.box (curLV xs c.1 c.2)] (relHS N 1 ((relRows N (drP xs c N N 0)).map rowOw).length)
      [.box (curLV xs (curs xs c (1 + N * N)).1 (curs xs c (1 + N * N)).2), .tree 92 1 ((relRows N (drP xs c N N 0)).map rowOw)] := by
  refine HSpec_of_code (E := env.x [163, 181, 182, 102] 1) env_ok.x (fn := Try.f133) Try.func133 rfl Try.call133 _ _ _ _ ?_
  obtain ⟨d0, d1⟩ := dns_range xs c
  ((repeat ((conv => whnf); first | refine brT ?_ | refine brF ?_)); conv => whnf)
  refine ⟨[], _, _, _, _, l2Blank_P N hN, rfl, rfl, rfl, trivial, ?_⟩
  rw [← drP_zero xs c N]
  ((repeat ((conv => whnf); first | refine brT ?_ | refine brF ?_)); conv => whnf)
  refine ⟨[0, 3], _, _, _, _, l01Int_h xs c [2, 4, 9] (by decide) (by decide) 3 rfl, rfl, rfl, rfl, trivial, ?_⟩
  have hd : ([2, 4, 9] : List Int).getD ((byV xs c).tmod (([2, 4, 9] : List Int).length : Int)).toNat 0 = dns xs c := rfl
  rw [hd]
  have hb : byN xs c = curs xs c 1 := rfl
  rw [hb]
  ((repeat ((conv => whnf); first | refine brT ?_ | refine brF ?_)); conv => whnf)
  refine ⟨lines_len.symm, fun _ => ?_⟩
  rw [lines_len]
  ((repeat ((conv => whnf); first | refine brT ?_ | refine brF ?_)); conv => whnf)
  refine loop_ruleR (α := Nat) [.old 0, .old 1, .old 2] (fun k => [(12, .undef), (16, .int .i64 (k : Int))])
    (fun k => [.box (curLV xs (curs xs c (1 + k * N)).1 (curs xs c (1 + k * N)).2), .box (.st [.int .i64 0, .nil]), .tree 133 1 ((gridP N (drP xs c N k 0)).map lineOw)]) (fun k => N - k) (fun k => k ≤ N) 0 (Nat.zero_le _) ?_ ?_
  · refine ⟨?_, ⟨rfl, by rw [show 1 + 0 * N = 1 by omega]; rfl, rfl, rfl, rfl, rfl, trivial⟩, rfl⟩
    ((repeat ((conv => whnf); refine ⟨rfl, rfl, ?_⟩)); trivial)
  intro k hk
  ((repeat ((conv => whnf); first | refine brT ?_ | refine brF ?_)); conv => whnf)
  (refine ⟨fun h1 => ?_, fun h1 => ?_⟩ <;> rw [h1])
  · have hlt : k < N := by rw [ltI_t] at h1; omega
    have e1 := step_i (n := 40) (k := k) (by omega) (by decide)
    ((repeat ((conv => whnf); first | refine brT ?_ | refine brF ?_)); conv => whnf)
    refine ⟨lines_len.symm, fun _ => ?_⟩
    rw [lines_len]
    ((repeat ((conv => whnf); first | refine brT ?_ | refine brF ?_)); conv => whnf)
    refine loop_ruleR (α := Nat) [.old 0, .old 1, .old 2] (fun i => [(12, .undef), (21, .int .i64 (i : Int))])
      (fun i => [.box (curLV xs (curs xs c (1 + k * N + i)).1 (curs xs c (1 + k * N + i)).2), .box (.st [.int .i64 0, .nil]), .tree 133 1 ((gridP N (drP xs c N k i)).map lineOw)]) (fun i => N - i) (fun i => i ≤ N) 0 (Nat.zero_le _) ?_ ?_
    · refine ⟨?_, ⟨rfl, rfl, rfl, rfl, rfl, rfl, trivial⟩, rfl⟩
      ((repeat ((conv => whnf); refine ⟨rfl, rfl, ?_⟩)); trivial)
    intro i hi
    generalize hKK : kk _ = KK
    ((repeat ((conv => whnf); first | refine brT ?_ | refine brF ?_)); conv => whnf)
    (refine ⟨fun h2 => ?_, fun h2 => ?_⟩ <;> rw [h2])
    · have hil : i < N := by rw [ltI_t] at h2; omega
      have e2 := step_i (n := 40) (k := i) (by omega) (by decide)
      have ep := drP_put (xs := xs) (c := c) (k := k) hil
      ((repeat ((conv => whnf); first | refine brT ?_ | refine brF ?_)); conv => whnf)
      refine ⟨false, 0, 8, [0], by kernel_rfl, ?_⟩
      ((repeat ((conv => whnf); first | refine brT ?_ | refine brF ?_)); conv => whnf)
      refine ⟨lines_len.symm, rfl, k, rfl, by rw [lines_len]; exact hlt, ?_⟩
      ((repeat ((conv => whnf); first | refine brT ?_ | refine brF ?_)); conv => whnf)
      refine ⟨lines_len.symm, lineOw (lineP N (drP xs c N k i) k), lineOw (lineP N (drP xs c N k i) k), lines_get hlt, rfl, ?_⟩
      ((repeat ((conv => whnf); first | refine brT ?_ | refine brF ?_)); conv => whnf)
      refine ⟨⟨rfl, ⟨_, rfl, .inr ⟨_, .nil, rfl, by simp [gridP_len], by simp, by simp [getP, setP, gridP_len, hlt]⟩⟩, trivial⟩, ?_⟩
      ((repeat ((conv => whnf); first | refine brT ?_ | refine brF ?_)); conv => whnf)
      refine ⟨_, _, _, _, l01Once_h xs (curs xs c (1 + k * N + i)) (dns xs c) d0 d1, rfl, rfl, rfl, trivial, ?_⟩
      ((repeat ((conv => whnf); first | refine brT ?_ | refine brF ?_)); conv => whnf)
      refine ⟨rfl, rfl, i, rfl, by rw [cells_len]; exact hil, ?_⟩
      ((repeat ((conv => whnf); first | refine brT ?_ | refine brF ?_)); conv => whnf)
      refine ⟨rfl, i, [], .bool (drP xs c N k i k i), rfl, by simp only [getP]; rw [cell_get hil], rfl, rfl, rfl, (lineP N (drP xs c N k (i + 1)) k).map bLV, by rw [cell_get hil, ← ep]; exact cells_put, ?_⟩
      ((repeat ((conv => whnf); first | refine brT ?_ | refine brF ?_)); conv => whnf)
      have e4 : ((gridP N (drP xs c N k i)).map lineOw).set k (lineOw (lineP N (drP xs c N k (i + 1)) k)) = (gridP N (drP xs c N k (i + 1))).map lineOw := by rw [← ep]; exact lines_put
      refine round_endR [.old 0, .old 1, .old 2] (i + 1) hil (by omega) ⟨?_, ⟨by rw [cells_len, cells_len], rfl, rfl, rfl, rfl, rfl, congrArg (Blk.tree 133 1) e4, trivial⟩, rfl⟩
      ((repeat ((conv => whnf); first | refine ⟨rfl, e2, ?_⟩ | refine ⟨rfl, rfl, ?_⟩)); trivial)
    · have hil : i = N := by rw [ltI_f] at h2; omega
      subst hil
      have e4 : (gridP i (drP xs c i k i)).map lineOw = (gridP i (drP xs c i (k + 1) 0)).map lineOw := by rw [drP_row]
      have e5 : 1 + k * i + i = 1 + (k + 1) * i := by rw [Nat.succ_mul]; omega
      subst hKK
      ((repeat ((conv => whnf); first | refine brT ?_ | refine brF ?_)); conv => whnf)
      refine round_endR [.old 0, .old 1, .old 2] (k + 1) hlt (by omega) ⟨?_, ⟨rfl, by rw [e5]; rfl, rfl, rfl, rfl, congrArg (Blk.tree 133 1) e4, trivial⟩, rfl⟩
      ((repeat ((conv => whnf); first | refine ⟨rfl, e1, ?_⟩ | refine ⟨rfl, rfl, ?_⟩)); trivial)
  · have h3 : k = N := by rw [ltI_f] at h1; omega
    subst h3
    ((repeat ((conv => whnf); first | refine brT ?_ | refine brF ?_)); conv => whnf)
    refine ⟨[], _, _, _, _, l2Of_P k (drP xs c k k 0) hN, rfl, ?_⟩
    ((repeat ((conv => whnf); first | refine brT ?_ | refine brF ?_)); conv => whnf)
    refine ⟨lines_len.symm, _, dms_lines _, ?_⟩
    ((repeat ((conv => whnf); first | refine brT ?_ | refine brF ?_)); conv => whnf)
    refine ⟨rfl, rfl, ⟨rfl, flatTs_rows _, trivial⟩, ?_⟩
    ((repeat ((conv => whnf); first | refine brT ?_ | refine brF ?_)); conv => whnf)
    refine ⟨[relHS k 1 ((relRows k (drP xs c k k 0)).map rowOw).length], rfl, rfl, .inr ⟨[.old 0, .old 3], ⟨rfl, rfl, trivial⟩, ⟨rfl, rfl, rfl, rfl, trivial⟩, rfl⟩⟩

/-- spec.MakeRelation: what is drawn out of a code. -/
def mkP (xs : List Int) (N : Nat) : Nat → Nat → Bool := drP xs (0, hshL xs (hshN xs)) N N 0
theorem makeRelation_h (xs : List Int) (N : Nat) (hN : N ≤ 40) :
    HSpec env.P 58 [.sl (xs.map buLV), .int .i64 (N : Int)] [] (relHS N 0 ((relRows N (mkP xs N)).map rowOw).length) [.tree 92 1 ((relRows N (mkP xs N)).map rowOw)] := by
  refine HSpec_of_code (E := env.x [134, 133] 0) env_ok.x (fn := Try.f58) Try.func58 rfl Try.call58 _ _ _ _ ?_
  ((repeat ((conv => whnf); first | refine brT ?_ | refine brF ?_)); conv => whnf)
  refine ⟨[], _, _, _, _, l01New_h xs, rfl, rfl, rfl, trivial, ?_⟩
  ((repeat ((conv => whnf); first | refine brT ?_ | refine brF ?_)); conv => whnf)
  rw [show maxI 0 (minI (N : Int) 40) = (N : Int) by unfold maxI minI; split <;> split <;> omega]
  refine ⟨[1], _, _, _, _, l2Draw_h xs (0, hshL xs (hshN xs)) N hN, rfl, rfl, rfl, trivial, ?_⟩
  ((repeat ((conv => whnf); first | refine brT ?_ | refine brF ?_)); conv => whnf)
  exact ⟨[relHS N 0 ((relRows N (mkP xs N)).map rowOw).length], rfl, rfl, .inr ⟨[.old 2], ⟨rfl, rfl, trivial⟩, ⟨rfl, rfl, trivial⟩, rfl⟩⟩
theorem makeRelation_f (xs : List Int) (N : Nat) (hN : N ≤ 40) : FSpec env.P 58 [.sl (xs.map buLV), .int .i64 (N : Int)] (.st [.int .i64 (N : Int), .own 92 1 ((relRows N (mkP xs N)).map rowSl)]) := rel_f (makeRelation_h xs N hN)
end Go.Proofs.Ytgockgehbnekbaa

namespace Go.Proofs.Ytgockgehbnekbaa
open Go.Lg
set_option maxHeartbeats 3200000
set_option maxRecDepth 10000
set_option linter.unusedVariables false
set_option linter.unusedSimpArgs false

/-! ### The program's operations on relations that are told by predicates -/
abbrev valR (N : Nat) (P : Nat → Nat → Bool) : LV := relLV N (relRows N P)
abbrev outR (N : Nat) (P : Nat → Nat → Bool) : LV := .st [.int .i64 (N : Int), .own 92 1 ((relRows N P).map rowSl)]
section
variable {N : Nat} {P Q S : Nat → Nat → Bool}
theorem okR (hN : N ≤ 40) : relOk N (relRows N P) = true := relOk_of (relRows_in hN)
theorem alR (hN : N ≤ 40) : alike N (relRows N P) N (relRows N Q) = true := by
  unfold alike
  rw [okR hN, okR hN, eqI_refl]; rfl
theorem rsR (b : Bool) (h : b = true) : rsN b (relRows N P) = N := by subst h; exact relRows_len N P
theorem compP_ext {P' Q' : Nat → Nat → Bool} (hP : ∀ a, a < N → ∀ b, b < N → P a b = P' a b) (hQ : ∀ a, a < N → ∀ b, b < N → Q a b = Q' a b) : ∀ a, a < N → ∀ b, b < N → compP N P Q a b = compP N P' Q' a b := by
  intro a ha c hc
  unfold compP onP
  rw [decide_eq_decide]
  constructor
  · rintro ⟨b, hb, h1, h2⟩; exact ⟨b, hb, by rw [← hP a ha b hb]; exact h1, by rw [← hQ b hb c hc]; exact h2⟩
  · rintro ⟨b, hb, h1, h2⟩; exact ⟨b, hb, by rw [hP a ha b hb]; exact h1, by rw [hQ b hb c hc]; exact h2⟩
theorem g_comp (hN : N ≤ 40) (P Q : Nat → Nat → Bool) : FSpec env.P 60 [valR N P, valR N Q] (outR N (compP N P Q)) := by
  have h := implCompose_h N (relRows N P) N (relRows N Q)
  rw [rsR _ (alR hN), relRows_len, relRows_ext (compP_ext (fun a ha b hb => relP_relRows ha hb) (fun a ha b hb => relP_relRows ha hb))] at h
  exact rel_f h
theorem g_all {f : Bool → Bool → Bool} {F : Nat} {P Q : Nat → Nat → Bool} (hN : N ≤ 40)
    (h : HSpec env.P F [valR N P, valR N Q] [] (relHS (rsN (alike N (relRows N P) N (relRows N Q)) (relRows N P)) 0 ((relRows (rsN (alike N (relRows N P) N (relRows N Q)) (relRows N P)) (allP f (relP (relRows N P)) (relP (relRows N Q)))).map rowOw).length)
      [.tree 92 1 ((relRows (rsN (alike N (relRows N P) N (relRows N Q)) (relRows N P)) (allP f (relP (relRows N P)) (relP (relRows N Q)))).map rowOw)]) : FSpec env.P F [valR N P, valR N Q] (outR N (allP f P Q)) := by
  rw [rsR _ (alR hN), relRows_ext (Q := allP f P Q) (fun a ha b hb => by unfold allP; rw [relP_relRows ha hb, relP_relRows ha hb])] at h
  exact rel_f h
theorem g_join (hN : N ≤ 40) (P Q : Nat → Nat → Bool) : FSpec env.P 64 [valR N P, valR N Q] (outR N (allP or P Q)) := g_all hN (impl_join N (relRows N P) N (relRows N Q))
theorem g_meet (hN : N ≤ 40) (P Q : Nat → Nat → Bool) : FSpec env.P 61 [valR N P, valR N Q] (outR N (allP and P Q)) := g_all hN (impl_meet N (relRows N P) N (relRows N Q))
theorem g_less (hN : N ≤ 40) (P Q : Nat → Nat → Bool) : FSpec env.P 67 [valR N P, valR N Q] (outR N (allP (fun x y => x && !y) P Q)) := g_all hN (impl_less N (relRows N P) N (relRows N Q))
def cvR (P : Nat → Nat → Bool) : Nat → Nat → Bool := fun a b => P b a
theorem g_conv (hN : N ≤ 40) (P : Nat → Nat → Bool) : FSpec env.P 62 [valR N P] (outR N (cvR P)) := by
  have h := implConverse_h N (relRows N P)
  rw [rsR _ (okR hN), relRows_ext (P := convP (relRows N P)) (Q := cvR P) (fun a ha b hb => by unfold convP cvR; rw [relP_relRows hb ha])] at h
  exact rel_f h
theorem g_id (hN : N ≤ 40) : FSpec env.P 66 [.int .i64 (N : Int)] (outR N (idP N)) := by
  have h := implIdentity_h (N : Int)
  rw [show empN (N : Int) = N by have := empN_ok (n := (N : Int)) (by omega) (by omega); omega] at h
  exact rel_f h
theorem g_eq (hN : N ≤ 40) (h : ∀ a, a < N → ∀ b, b < N → P a b = Q a b) : FSpec env.P 63 [valR N P, valR N Q] (.bool true) := by
  have k := specEqual_spec N (relRows N P) N (relRows N Q)
  rw [show relEq N (relRows N P) N (relRows N Q) = true by unfold relEq; rw [alR hN, relRows_ext h]; simp] at k
  exact k
theorem g_within (hN : N ≤ 40) (h : ∀ a, a < N → ∀ b, b < N → P a b = true → Q a b = true) : FSpec env.P 65 [valR N P, valR N Q] (.bool true) := by
  have k := implWithin_spec N (relRows N P) N (relRows N Q)
  rw [show relWithin N (relRows N P) N (relRows N Q) = true by
    unfold relWithin
    rw [alR hN, relRows_len, Bool.true_and, decide_eq_true_eq]
    intro a ha b hb hp
    rw [relP_relRows ha hb] at hp ⊢
    exact h a ha b hb hp] at k
  exact k
theorem compP_t {a c : Nat} : compP N P Q a c = true ↔ ∃ b, b < N ∧ P a b = true ∧ Q b c = true := by unfold compP onP; rw [decide_eq_true_eq]
theorem beq_of {b c : Bool} (h : b = true ↔ c = true) : b = c := Bool.eq_iff_iff.2 h
theorem alg_assoc (N : Nat) (P Q S : Nat → Nat → Bool) (a : Nat) (ha : a < N) (b : Nat) (hb : b < N) : compP N (compP N P Q) S a b = compP N P (compP N Q S) a b := by
  apply beq_of
  simp only [compP_t]
  constructor
  · rintro ⟨x, hx, ⟨y, hy, h1, h2⟩, h3⟩; exact ⟨y, hy, h1, x, hx, h2, h3⟩
  · rintro ⟨y, hy, h1, x, hx, h2, h3⟩; exact ⟨x, hx, ⟨y, hy, h1, h2⟩, h3⟩
theorem alg_conv (N : Nat) (P Q : Nat → Nat → Bool) (a : Nat) (ha : a < N) (b : Nat) (hb : b < N) : cvR (compP N P Q) a b = compP N (cvR Q) (cvR P) a b := by
  apply beq_of
  unfold cvR
  simp only [compP_t]
  constructor
  · rintro ⟨x, hx, h1, h2⟩; exact ⟨x, hx, h2, h1⟩
  · rintro ⟨x, hx, h1, h2⟩; exact ⟨x, hx, h2, h1⟩
theorem alg_join (N : Nat) (P Q S : Nat → Nat → Bool) (a : Nat) (ha : a < N) (b : Nat) (hb : b < N) : compP N P (allP or Q S) a b = allP or (compP N P Q) (compP N P S) a b := by
  apply beq_of
  unfold allP
  rw [Bool.or_eq_true]
  simp only [compP_t, Bool.or_eq_true]
  constructor
  · rintro ⟨x, hx, h1, h2 | h2⟩
    · exact .inl ⟨x, hx, h1, h2⟩
    · exact .inr ⟨x, hx, h1, h2⟩
  · rintro (⟨x, hx, h1, h2⟩ | ⟨x, hx, h1, h2⟩)
    · exact ⟨x, hx, h1, .inl h2⟩
    · exact ⟨x, hx, h1, .inr h2⟩
theorem alg_modular (N : Nat) (P Q S : Nat → Nat → Bool) (a : Nat) (ha : a < N) (b : Nat) (hb : b < N) (h : allP and (compP N P Q) S a b = true) : compP N (allP and P (compP N S (cvR Q))) Q a b = true := by
  unfold allP at h
  rw [Bool.and_eq_true] at h
  obtain ⟨h1, h2⟩ := h
  obtain ⟨x, hx, h3, h4⟩ := compP_t.1 h1
  refine compP_t.2 ⟨x, hx, ?_, h4⟩
  unfold allP
  rw [Bool.and_eq_true]
  exact ⟨h3, compP_t.2 ⟨b, hb, h2, h4⟩⟩
theorem alg_id (N : Nat) (P : Nat → Nat → Bool) (a : Nat) (ha : a < N) (b : Nat) (hb : b < N) : compP N P (idP N) a b = P a b := by
  apply beq_of
  rw [compP_t]
  unfold idP
  constructor
  · rintro ⟨x, hx, h1, h2⟩
    rw [decide_eq_true_eq] at h2
    rw [← h2.1]; exact h1
  · intro h
    exact ⟨b, hb, h, by rw [decide_eq_true_eq]; exact ⟨rfl, hb⟩⟩
theorem alg_parts (P Q : Nat → Nat → Bool) (a b : Nat) : allP or (allP (fun x y => x && !y) P Q) (allP and P Q) a b = P a b := by
  unfold allP
  cases P a b <;> cases Q a b <;> rfl
end

theorem bytes_ints (bs : List Nat) : bs.map byLV = (bs.map fun b : Nat => (b : Int)).map buLV := by rw [List.map_map]; rfl
theorem at0_small (bs : List Nat) (hb : ∀ b ∈ bs, b < 256) : ∃ N : Nat, (at0 bs).tmod 7 = (N : Int) ∧ N ≤ 6 := by
  have h0 : 0 ≤ at0 bs := by unfold at0; split <;> omega
  have t0 : 0 ≤ (at0 bs).tmod 7 := Int.tmod_nonneg _ h0
  have t1 : (at0 bs).tmod 7 < 7 := Int.tmod_lt_of_pos _ (by omega)
  exact ⟨((at0 bs).tmod 7).toNat, by omega, by omega⟩

theorem law_algebra (bs : List Nat) (hbs : bs.length ≤ Go.maxLen ∧ ∀ b ∈ bs, b < 256) : FSpec env.P 15 [.sl (bs.map byLV)] (.bool true) := by
  have hat := at_spec bs hbs.2
  obtain ⟨N, hn, hN6⟩ := at0_small bs hbs.2
  have hN : N ≤ 40 := by omega
  rw [bytes_ints] at hat ⊢
  generalize (bs.map fun b : Nat => (b : Int)) = xs at hat ⊢
  generalize at0 bs = a0 at hat hn
  have hr := makeRelation_f (frTo xs 1 (frN xs)) N hN
  have hs := makeRelation_f (frTo xs 2 (frN xs)) N hN
  have ht := makeRelation_f (frTo xs 3 (frN xs)) N hN
  generalize hR : mkP (frTo xs 1 (frN xs)) N = R at hr
  generalize hS : mkP (frTo xs 2 (frN xs)) N = S at hs
  generalize hT : mkP (frTo xs 3 (frN xs)) N = T at ht
  refine FSpec_of_code env_ok (fn := Try.f15) Try.func15 rfl Try.call15 _ _ ?_
  ((repeat ((conv => whnf); first | refine brT ?_ | refine brF ?_)); conv => whnf)
  intro hm
  ((repeat ((conv => whnf); first | refine brT ?_ | refine brF ?_)); conv => whnf)
  (refine ⟨fun hl => ?_, fun hl => ?_⟩ <;> rw [hl])
  · ((repeat ((conv => whnf); first | refine brT ?_ | refine brF ?_)); conv => whnf)
    exact fin rfl
  ((repeat ((conv => whnf); first | refine brT ?_ | refine brF ?_)); conv => whnf)
  refine ⟨_, hat, ?_⟩
  ((repeat ((conv => whnf); first | refine brT ?_ | refine brF ?_)); conv => whnf)
  refine ⟨by decide, ?_⟩
  rw [hn]
  ((repeat ((conv => whnf); first | refine brT ?_ | refine brF ?_)); conv => whnf)
  refine ⟨_, fresh_f xs 1, ?_⟩
  ((repeat ((conv => whnf); first | refine brT ?_ | refine brF ?_)); conv => whnf)
  refine ⟨_, hr, ?_⟩
  ((repeat ((conv => whnf); first | refine brT ?_ | refine brF ?_)); conv => whnf)
  refine ⟨_, fresh_f xs 2, ?_⟩
  ((repeat ((conv => whnf); first | refine brT ?_ | refine brF ?_)); conv => whnf)
  refine ⟨_, hs, ?_⟩
  ((repeat ((conv => whnf); first | refine brT ?_ | refine brF ?_)); conv => whnf)
  refine ⟨_, fresh_f xs 3, ?_⟩
  ((repeat ((conv => whnf); first | refine brT ?_ | refine brF ?_)); conv => whnf)
  refine ⟨_, ht, ?_⟩
  ((repeat ((conv => whnf); first | refine brT ?_ | refine brF ?_)); conv => whnf)
  refine ⟨_, g_comp hN R S, ?_⟩
  ((repeat ((conv => whnf); first | refine brT ?_ | refine brF ?_)); conv => whnf)
  refine ⟨_, g_meet hN (compP N R S) T, ?_⟩
  ((repeat ((conv => whnf); first | refine brT ?_ | refine brF ?_)); conv => whnf)
  refine ⟨true, by kernel_rfl, ?_⟩
  ((repeat ((conv => whnf); first | refine brT ?_ | refine brF ?_)); conv => whnf)
  refine ⟨_, g_conv hN S, ?_⟩
  ((repeat ((conv => whnf); first | refine brT ?_ | refine brF ?_)); conv => whnf)
  refine ⟨_, g_comp hN T (cvR S), ?_⟩
  ((repeat ((conv => whnf); first | refine brT ?_ | refine brF ?_)); conv => whnf)
  refine ⟨_, g_meet hN R (compP N T (cvR S)), ?_⟩
  ((repeat ((conv => whnf); first | refine brT ?_ | refine brF ?_)); conv => whnf)
  refine ⟨_, g_comp hN (allP and R (compP N T (cvR S))) S, ?_⟩
  ((repeat ((conv => whnf); first | refine brT ?_ | refine brF ?_)); conv => whnf)
  refine ⟨true, by kernel_rfl, ?_⟩
  ((repeat ((conv => whnf); first | refine brT ?_ | refine brF ?_)); conv => whnf)
  refine ⟨_, g_comp hN (compP N R S) T, ?_⟩
  ((repeat ((conv => whnf); first | refine brT ?_ | refine brF ?_)); conv => whnf)
  refine ⟨_, g_comp hN S T, ?_⟩
  ((repeat ((conv => whnf); first | refine brT ?_ | refine brF ?_)); conv => whnf)
  refine ⟨_, g_comp hN R (compP N S T), ?_⟩
  ((repeat ((conv => whnf); first | refine brT ?_ | refine brF ?_)); conv => whnf)
  refine ⟨_, g_eq hN (alg_assoc N R S T), ?_⟩
  ((repeat ((conv => whnf); first | refine brT ?_ | refine brF ?_)); conv => whnf)
  refine ⟨_, g_conv hN (compP N R S), ?_⟩
  ((repeat ((conv => whnf); first | refine brT ?_ | refine brF ?_)); conv => whnf)
  refine ⟨_, g_conv hN S, ?_⟩
  ((repeat ((conv => whnf); first | refine brT ?_ | refine brF ?_)); conv => whnf)
  refine ⟨_, g_conv hN R, ?_⟩
  ((repeat ((conv => whnf); first | refine brT ?_ | refine brF ?_)); conv => whnf)
  refine ⟨_, g_comp hN (cvR S) (cvR R), ?_⟩
  ((repeat ((conv => whnf); first | refine brT ?_ | refine brF ?_)); conv => whnf)
  refine ⟨_, g_eq hN (alg_conv N R S), ?_⟩
  ((repeat ((conv => whnf); first | refine brT ?_ | refine brF ?_)); conv => whnf)
  refine ⟨_, g_join hN S T, ?_⟩
  ((repeat ((conv => whnf); first | refine brT ?_ | refine brF ?_)); conv => whnf)
  refine ⟨_, g_comp hN R (allP or S T), ?_⟩
  ((repeat ((conv => whnf); first | refine brT ?_ | refine brF ?_)); conv => whnf)
  refine ⟨_, g_comp hN R T, ?_⟩
  ((repeat ((conv => whnf); first | refine brT ?_ | refine brF ?_)); conv => whnf)
  refine ⟨_, g_join hN (compP N R S) (compP N R T), ?_⟩
  ((repeat ((conv => whnf); first | refine brT ?_ | refine brF ?_)); conv => whnf)
  refine ⟨_, g_eq hN (alg_join N R S T), ?_⟩
  ((repeat ((conv => whnf); first | refine brT ?_ | refine brF ?_)); conv => whnf)
  refine ⟨_, g_within hN (alg_modular N R S T), ?_⟩
  ((repeat ((conv => whnf); first | refine brT ?_ | refine brF ?_)); conv => whnf)
  refine ⟨_, g_id hN, ?_⟩
  ((repeat ((conv => whnf); first | refine brT ?_ | refine brF ?_)); conv => whnf)
  refine ⟨_, g_comp hN R (idP N), ?_⟩
  ((repeat ((conv => whnf); first | refine brT ?_ | refine brF ?_)); conv => whnf)
  refine ⟨_, g_eq hN (alg_id N R), ?_⟩
  ((repeat ((conv => whnf); first | refine brT ?_ | refine brF ?_)); conv => whnf)
  refine ⟨_, g_less hN R S, ?_⟩
  ((repeat ((conv => whnf); first | refine brT ?_ | refine brF ?_)); conv => whnf)
  refine ⟨_, g_meet hN R S, ?_⟩
  ((repeat ((conv => whnf); first | refine brT ?_ | refine brF ?_)); conv => whnf)
  refine ⟨_, g_join hN (allP (fun x y => x && !y) R S) (allP and R S), ?_⟩
  ((repeat ((conv => whnf); first | refine brT ?_ | refine brF ?_)); conv => whnf)
  refine ⟨_, g_eq hN (fun a _ b _ => alg_parts R S a b), ?_⟩
  ((repeat ((conv => whnf); first | refine brT ?_ | refine brF ?_)); conv => whnf)
  exact fin rfl
end Go.Proofs.Ytgockgehbnekbaa

namespace Go.Proofs.Ytgockgehbnekbaa
open Go.Lg
set_option maxHeartbeats 3200000
set_option maxRecDepth 10000
set_option linter.unusedVariables false
set_option linter.unusedSimpArgs false

section
variable {N : Nat} {P Q : Nat → Nat → Bool}
theorem iter_s (k : Nat) (P : Nat → Nat → Bool) : iter viaP (k + 1) P = viaP k (iter viaP k P) := rfl
theorem viaP_eq (k a b : Nat) (P : Nat → Nat → Bool) : viaP k P a b = (P a b || (P a k && P k b)) := rfl
theorem viaP_t {k a b : Nat} {P : Nat → Nat → Bool} : viaP k P a b = true ↔ P a b = true ∨ (P a k = true ∧ P k b = true) := by unfold viaP; rw [Bool.or_eq_true, Bool.and_eq_true]
theorem clos_up (k : Nat) {a b : Nat} (h : P a b = true) : iter viaP k P a b = true := by
  induction k with
  | zero => exact h
  | succ k ih => rw [iter_s, viaP_t]; exact .inl ih
theorem clos_trans : ∀ (k m : Nat), m < k → ∀ a b, iter viaP k P a m = true → iter viaP k P m b = true → iter viaP k P a b = true := by
  intro k
  induction k with
  | zero => intro m h; omega
  | succ k ih =>
    intro m hm a b h1 h2
    rw [iter_s, viaP_t] at h1 h2 ⊢
    by_cases e : m < k
    · rcases h1 with h1 | ⟨h1, h1'⟩ <;> rcases h2 with h2 | ⟨h2, h2'⟩
      · exact .inl (ih m e a b h1 h2)
      · exact .inr ⟨ih m e a k h1 h2, h2'⟩
      · exact .inr ⟨h1, ih m e k b h1' h2⟩
      · exact .inr ⟨h1, h2'⟩
    · obtain rfl : m = k := by omega
      have a1 : iter viaP m P a m = true := by rcases h1 with h1 | ⟨h1, _⟩ <;> exact h1
      have a2 : iter viaP m P m b = true := by rcases h2 with h2 | ⟨_, h2⟩ <;> exact h2
      exact .inr ⟨a1, a2⟩
theorem clos_mono (h : ∀ a b, P a b = true → Q a b = true) : ∀ (k a b : Nat), iter viaP k P a b = true → iter viaP k Q a b = true
  | 0, a, b, k => h a b k
  | k + 1, a, b, q => by
    rw [iter_s, viaP_t] at q ⊢
    rcases q with q | ⟨q1, q2⟩
    · exact .inl (clos_mono h k a b q)
    · exact .inr ⟨clos_mono h k _ _ q1, clos_mono h k _ _ q2⟩
theorem clos_ext (h : ∀ a, a < N → ∀ b, b < N → P a b = Q a b) : ∀ (k : Nat), k ≤ N → ∀ a, a < N → ∀ b, b < N → iter viaP k P a b = iter viaP k Q a b
  | 0, _, a, ha, b, hb => h a ha b hb
  | k + 1, hk, a, ha, b, hb => by
    rw [iter_s, iter_s, viaP_eq, viaP_eq, clos_ext h k (by omega) a ha b hb, clos_ext h k (by omega) a ha k (by omega), clos_ext h k (by omega) k (by omega) b hb]
theorem clos_same (h : ∀ m, m < N → ∀ a b, P a m = true → P m b = true → P a b = true) : ∀ (k : Nat), k ≤ N → ∀ a b, iter viaP k P a b = P a b
  | 0, _, a, b => rfl
  | k + 1, hk, a, b => by
    apply beq_of
    rw [iter_s, viaP_t, clos_same h k (by omega) a b, clos_same h k (by omega) a k, clos_same h k (by omega) k b]
    exact ⟨fun q => q.elim id fun ⟨q1, q2⟩ => h k (by omega) a b q1 q2, .inl⟩
theorem g_clos (hN : N ≤ 40) (P : Nat → Nat → Bool) : FSpec env.P 68 [valR N P] (outR N (closP N P)) := by
  have h := implClosure_h N (relRows N P)
  rw [rsR _ (okR hN), relRows_len, relRows_ext (P := closP N (relP (relRows N P))) (Q := closP N P) (clos_ext (fun a ha b hb => relP_relRows ha hb) N (Nat.le_refl _))] at h
  exact rel_f h
theorem pairs_relRows (hN : N ≤ 40) (P : Nat → Nat → Bool) (p : Pr) : p ∈ pairsL N (relRows N P) ↔ ∃ a b : Nat, p = ⟨(a : Int), (b : Int)⟩ ∧ a < N ∧ b < N ∧ P a b = true := by
  have e : pairsL N (relRows N P) = prFrom 0 (relRows N P) := by unfold pairsL; rw [okR hN]
  rw [e, mem_prFrom]
  constructor
  · rintro ⟨i, hi, h1, h2⟩
    rw [relRows_len] at hi
    have hmem : (relRows N P).getD i [] ∈ relRows N P := by
      rw [List.getD_eq_getElem?_getD, List.getElem?_eq_getElem (by rw [relRows_len]; exact hi)]
      exact List.getElem_mem _
    obtain ⟨b0, b1, _⟩ := (relRows_in (P := P) hN).mem hmem h2
    have hb : p.b = ((p.b.toNat : Nat) : Int) := by omega
    rw [hb, relRows_mem hi] at h2
    refine ⟨i, p.b.toNat, ?_, hi, h2.1, h2.2⟩
    cases p with
    | mk pa pb =>
      simp only at h1 hb ⊢
      rw [h1, ← hb, Nat.zero_add]
  · rintro ⟨a, b, rfl, ha, hb, hp⟩
    exact ⟨a, by rw [relRows_len]; exact ha, by simp, (relRows_mem ha).2 ⟨hb, hp⟩⟩
theorem pairs_ok (hN : N ≤ 40) (P : Nat → Nat → Bool) : prOk N (pairsL N (relRows N P)) = true := by
  unfold prOk
  simp only [Bool.and_eq_true, leI_t, List.all_eq_true]
  refine ⟨⟨by omega, by omega⟩, fun p hp => ?_⟩
  obtain ⟨a, b, rfl, ha, hb, _⟩ := (pairs_relRows hN P p).1 hp
  unfold prInB
  simp only [Bool.and_eq_true, leI_t, ltI_t]
  omega
theorem pairs_back (hN : N ≤ 40) (P : Nat → Nat → Bool) (a : Nat) (ha : a < N) (b : Nat) (hb : b < N) : prTk (pairsL N (relRows N P)) (pairsL N (relRows N P)).length a b = P a b := by
  apply beq_of
  unfold prTk
  rw [List.take_length, decide_eq_true_eq]
  constructor
  · rintro ⟨p, hp, h1, h2⟩
    obtain ⟨x, y, rfl, _, _, h⟩ := (pairs_relRows hN P p).1 hp
    simp only at h1 h2
    have hx : x = a := by omega
    have hy : y = b := by omega
    subst hx; subst hy
    exact h
  · intro h
    exact ⟨⟨(a : Int), (b : Int)⟩, (pairs_relRows hN P _).2 ⟨a, b, rfl, ha, hb, h⟩, rfl, rfl⟩
theorem g_back (hN : N ≤ 40) (P : Nat → Nat → Bool) :
    HSpec env.P 69 [.int .i64 (N : Int), .sl ((pairsL N (relRows N P)).map Pr.lv)] [] (.tup [relHS N 0 ((relRows N P).map rowOw).length, .bool true]) [.tree 92 1 ((relRows N P).map rowOw)] := by
  have h := implRelationOf_h N (pairsL N (relRows N P)) (by have := pairsL_len (N : Int) (relRows N P); unfold Go.maxLen; omega)
  have e : prN (N : Int) (pairsL N (relRows N P)) = N := by unfold prN; rw [pairs_ok hN]; simp
  rw [pairs_ok hN, e, relRows_ext (P := prTk (pairsL N (relRows N P)) (pairsL N (relRows N P)).length) (Q := P) (pairs_back hN P)] at h
  exact h
theorem clos_in (N : Nat) (P : Nat → Nat → Bool) (a : Nat) (ha : a < N) (b : Nat) (hb : b < N) (h : compP N (closP N P) (closP N P) a b = true) : closP N P a b = true := by
  obtain ⟨m, hm, h1, h2⟩ := compP_t.1 h
  exact clos_trans N m hm a b h1 h2
theorem clos_again (N : Nat) (P : Nat → Nat → Bool) (a : Nat) (ha : a < N) (b : Nat) (hb : b < N) : closP N (closP N P) a b = closP N P a b :=
  clos_same (fun m hm a b h1 h2 => clos_trans N m hm a b h1 h2) N (Nat.le_refl _) a b
end

theorem law_closed (bs : List Nat) (hbs : bs.length ≤ Go.maxLen ∧ ∀ b ∈ bs, b < 256) : FSpec env.P 16 [.sl (bs.map byLV)] (.bool true) := by
  have hat := at_spec bs hbs.2
  obtain ⟨N, hn, hN6⟩ := at0_small bs hbs.2
  have hN : N ≤ 40 := by omega
  rw [bytes_ints] at hat ⊢
  generalize (bs.map fun b : Nat => (b : Int)) = xs at hat ⊢
  generalize at0 bs = a0 at hat hn
  have hr := makeRelation_f (frTo xs 1 (frN xs)) N hN
  have hs := makeRelation_f (frTo xs 2 (frN xs)) N hN
  generalize hR : mkP (frTo xs 1 (frN xs)) N = R at hr
  generalize hS : mkP (frTo xs 2 (frN xs)) N = S at hs
  refine FSpec_of_code (E := env.x [69] 0) env_ok.x (fn := Try.f16) Try.func16 rfl Try.call16 _ _ ?_
  ((repeat ((conv => whnf); first | refine brT ?_ | refine brF ?_)); conv => whnf)
  intro hm
  ((repeat ((conv => whnf); first | refine brT ?_ | refine brF ?_)); conv => whnf)
  (refine ⟨fun hl => ?_, fun hl => ?_⟩ <;> rw [hl])
  · ((repeat ((conv => whnf); first | refine brT ?_ | refine brF ?_)); conv => whnf)
    exact fin rfl
  ((repeat ((conv => whnf); first | refine brT ?_ | refine brF ?_)); conv => whnf)
  refine ⟨_, hat, ?_⟩
  ((repeat ((conv => whnf); first | refine brT ?_ | refine brF ?_)); conv => whnf)
  refine ⟨by decide, ?_⟩
  rw [hn]
  ((repeat ((conv => whnf); first | refine brT ?_ | refine brF ?_)); conv => whnf)
  refine ⟨_, fresh_f xs 1, ?_⟩
  ((repeat ((conv => whnf); first | refine brT ?_ | refine brF ?_)); conv => whnf)
  refine ⟨_, hr, ?_⟩
  ((repeat ((conv => whnf); first | refine brT ?_ | refine brF ?_)); conv => whnf)
  refine ⟨true, by kernel_rfl, ?_⟩
  ((repeat ((conv => whnf); first | refine brT ?_ | refine brF ?_)); conv => whnf)
  refine ⟨_, fresh_f xs 2, ?_⟩
  ((repeat ((conv => whnf); first | refine brT ?_ | refine brF ?_)); conv => whnf)
  refine ⟨_, hs, ?_⟩
  ((repeat ((conv => whnf); first | refine brT ?_ | refine brF ?_)); conv => whnf)
  refine ⟨_, g_join hN R S, ?_⟩
  ((repeat ((conv => whnf); first | refine brT ?_ | refine brF ?_)); conv => whnf)
  refine ⟨_, g_clos hN (allP or R S), ?_⟩
  ((repeat ((conv => whnf); first | refine brT ?_ | refine brF ?_)); conv => whnf)
  refine ⟨_, g_clos hN R, ?_⟩
  ((repeat ((conv => whnf); first | refine brT ?_ | refine brF ?_)); conv => whnf)
  refine ⟨_, pairsOf_f N (relRows N R), ?_⟩
  ((repeat ((conv => whnf); first | refine brT ?_ | refine brF ?_)); conv => whnf)
  refine ⟨[], _, _, _, _, g_back hN R, rfl, rfl, rfl, trivial, ?_⟩
  ((repeat ((conv => whnf); first | refine brT ?_ | refine brF ?_)); conv => whnf)
  refine ⟨true, by kernel_rfl, ?_⟩
  ((repeat ((conv => whnf); first | refine brT ?_ | refine brF ?_)); conv => whnf)
  refine ⟨_, g_within hN (fun a ha b hb h => clos_up N h), ?_⟩
  ((repeat ((conv => whnf); first | refine brT ?_ | refine brF ?_)); conv => whnf)
  refine ⟨_, g_comp hN (closP N R) (closP N R), ?_⟩
  ((repeat ((conv => whnf); first | refine brT ?_ | refine brF ?_)); conv => whnf)
  refine ⟨_, g_within hN (clos_in N R), ?_⟩
  ((repeat ((conv => whnf); first | refine brT ?_ | refine brF ?_)); conv => whnf)
  refine ⟨_, g_clos hN (closP N R), ?_⟩
  ((repeat ((conv => whnf); first | refine brT ?_ | refine brF ?_)); conv => whnf)
  refine ⟨_, g_eq hN (clos_again N R), ?_⟩
  ((repeat ((conv => whnf); first | refine brT ?_ | refine brF ?_)); conv => whnf)
  refine ⟨_, g_within hN (fun a ha b hb h => clos_mono (fun a b h => by unfold allP; rw [h]; rfl) N a b h), ?_⟩
  ((repeat ((conv => whnf); first | refine brT ?_ | refine brF ?_)); conv => whnf)
  refine ⟨rfl, _, dms_rows _, ?_⟩
  ((repeat ((conv => whnf); first | refine brT ?_ | refine brF ?_)); conv => whnf)
  refine ⟨_, g_eq hN (fun _ _ _ _ => rfl), ?_⟩
  ((repeat ((conv => whnf); first | refine brT ?_ | refine brF ?_)); conv => whnf)
  exact fin rfl
end Go.Proofs.Ytgockgehbnekbaa
