/- Contracts of functions of the program and of its model, told over readings. -/
import Derived.Test.YtfdjeflnjciloaaCPB
import Derived.Test.YtfdjeflnjciloaaCLgMF
namespace Go.Proofs.Ytfdjeflnjciloaa
open Go.Lg
set_option maxHeartbeats 1600000
set_option maxRecDepth 10000
set_option linter.unusedVariables false
set_option linter.unusedSimpArgs false

/-! ### Tables and sets of one predicate -/
def gridP (n : Nat) (P : Nat → Nat → Bool) : List (List Bool) := (List.range n).map fun a => (List.range n).map fun b => P a b
def lineP (n : Nat) (P : Nat → Nat → Bool) (a : Nat) : List Bool := (List.range n).map fun b => P a b
/-- One place set. -/
def putP (P : Nat → Nat → Bool) (a b : Nat) (v : Bool) : Nat → Nat → Bool := fun x y => if x = a ∧ y = b then v else P x y
theorem gridP_len (n : Nat) (P : Nat → Nat → Bool) : (gridP n P).length = n := by simp [gridP]
theorem lineP_len (n : Nat) (P : Nat → Nat → Bool) (a : Nat) : (lineP n P a).length = n := by simp [lineP]
theorem gridP_get {n a : Nat} {P : Nat → Nat → Bool} (h : a < n) : (gridP n P)[a]? = some (lineP n P a) := by simp [gridP, lineP, h]
theorem lineP_get {n a b : Nat} {P : Nat → Nat → Bool} (h : b < n) : (lineP n P a)[b]? = some (P a b) := by simp [lineP, h]
theorem lineP_put {n a b : Nat} {P : Nat → Nat → Bool} {v : Bool} : (lineP n P a).set b v = lineP n (putP P a b v) a := by
  apply List.ext_getElem
  · simp [lineP]
  · intro y h1 h2
    rw [List.getElem_set]
    simp only [lineP, List.getElem_map, List.getElem_range, putP]
    by_cases e : b = y
    · subst e; simp
    · have : ¬ y = b := fun h => e h.symm
      simp [e, this]
theorem gridP_put {n a b : Nat} {P : Nat → Nat → Bool} {v : Bool} : (gridP n P).set a (lineP n (putP P a b v) a) = gridP n (putP P a b v) := by
  apply List.ext_getElem
  · simp [gridP]
  · intro x h1 h2
    rw [List.getElem_set]
    simp only [gridP, List.getElem_map, List.getElem_range]
    by_cases e : a = x
    · subst e; simp [lineP]
    · have : ¬ x = a := fun h => e h.symm
      simp [e, putP, this]
theorem gridP_ext {n : Nat} {P Q : Nat → Nat → Bool} (h : ∀ a, a < n → ∀ b, b < n → P a b = Q a b) : gridP n P = gridP n Q := by
  unfold gridP
  apply List.map_congr_left
  intro a ha
  apply List.map_congr_left
  intro b hb
  exact h a (by simpa using ha) b (by simpa using hb)
theorem relRows_ext {n : Nat} {P Q : Nat → Nat → Bool} (h : ∀ a, a < n → ∀ b, b < n → P a b = Q a b) : relRows n P = relRows n Q := by
  unfold relRows
  apply List.map_congr_left
  intro a ha
  congr 1
  apply List.filter_congr
  intro b hb
  exact h a (by simpa using ha) b (by simpa using hb)
theorem gridP_rows (n : Nat) (P : Nat → Nat → Bool) : (gridP n P).map lineN = relRows n P := by
  unfold gridP relRows
  rw [List.map_map]
  apply List.map_congr_left
  intro a ha
  simp only [Function.comp_apply, lineN, lineTo, List.length_map, List.length_range]
  congr 1
  apply List.filter_congr
  intro b hb
  have hb : b < n := by simpa using hb
  simp [List.getD_eq_getElem?_getD, hb]
theorem blank_gridP (n : Nat) : blank n n = gridP n (fun _ _ => false) := by
  unfold blank gridP
  apply List.ext_getElem
  · simp
  · intro a h1 h2
    simp only [List.getElem_map, List.getElem_range, List.getElem_replicate]
    apply List.ext_getElem
    · simp
    · intro b h3 h4
      simp

/-! ### Sets -/
def bitsP : Nat → (Nat → Bool) → Nat
  | 0, _ => 0
  | n + 1, p => bitsP n p ||| (if p n then 2 ^ n else 0)
theorem bitsP_bit (p : Nat → Bool) : ∀ (n i : Nat), (bitsP n p).testBit i = (decide (i < n) && p i)
  | 0, i => by simp [bitsP]
  | n + 1, i => by
    simp only [bitsP]
    rw [Nat.testBit_or, bitsP_bit p n i]
    by_cases e : i = n
    · subst e
      cases h : p i <;> simp [Nat.testBit_two_pow]
    · have h2 : decide (i < n + 1) = decide (i < n) := by rw [decide_eq_decide]; omega
      rw [h2]
      cases h : p n
      · simp
      · have : ¬ n = i := fun h => e h.symm
        simp [Nat.testBit_two_pow, this]
theorem bitsP_lt (p : Nat → Bool) : ∀ n, bitsP n p < 2 ^ n
  | 0 => by simp [bitsP]
  | n + 1 => by
    simp only [bitsP]
    have h := bitsP_lt p n
    have h2 : 2 ^ n < 2 ^ (n + 1) := Nat.pow_lt_pow_right (by omega) (by omega)
    refine Nat.or_lt_two_pow (by omega) ?_
    split <;> omega
theorem bitsP_64 {n : Nat} (p : Nat → Bool) (h : n ≤ 64) : bitsP n p < 2 ^ 64 := Nat.lt_of_lt_of_le (bitsP_lt p n) (Nat.pow_le_pow_right (by omega) h)
def setsP (n : Nat) (P : Nat → Nat → Bool) : List Nat := (List.range n).map fun a => bitsP n (P a)
theorem setsP_len (n : Nat) (P : Nat → Nat → Bool) : (setsP n P).length = n := by simp [setsP]
theorem setsP_get {n a : Nat} {P : Nat → Nat → Bool} (h : a < n) : (setsP n P)[a]? = some (bitsP n (P a)) := by simp [setsP, h]
theorem setsP_lt {n : Nat} {P : Nat → Nat → Bool} (h : n ≤ 64) : ∀ s ∈ setsP n P, s < 2 ^ 64 := by
  intro s hs
  unfold setsP at hs
  obtain ⟨a, _, rfl⟩ := List.mem_map.1 hs
  exact bitsP_64 _ h
/-- One row set. -/
def rowP (P : Nat → Nat → Bool) (a : Nat) (p : Nat → Bool) : Nat → Nat → Bool := fun x y => if x = a then p y else P x y
theorem setsP_set {n a : Nat} {P : Nat → Nat → Bool} {p : Nat → Bool} {s : Nat} (h : s = bitsP n p) : (setsP n P).set a s = setsP n (rowP P a p) := by
  subst h
  apply List.ext_getElem
  · simp [setsP]
  · intro x h1 h2
    rw [List.getElem_set]
    simp only [setsP, List.getElem_map, List.getElem_range]
    by_cases e : a = x
    · subst e
      rw [if_pos rfl]
      congr 1
      funext y
      simp [rowP]
    · have : ¬ x = a := fun h => e h.symm
      rw [if_neg e]
      congr 1
      funext y
      simp [rowP, this]
theorem bits_ext {n s : Nat} {p : Nat → Bool} (h : ∀ i, s.testBit i = (decide (i < n) && p i)) : s = bitsP n p := by
  apply Nat.eq_of_testBit_eq
  intro i
  rw [h, bitsP_bit]
theorem bitsP_or {n : Nat} {p q : Nat → Bool} : bitsP n p ||| bitsP n q = bitsP n fun y => p y || q y :=
  bits_ext fun i => by rw [Nat.testBit_or, bitsP_bit, bitsP_bit]; cases decide (i < n) <;> simp
theorem bitsP_and {n : Nat} {p q : Nat → Bool} : bitsP n p &&& bitsP n q = bitsP n fun y => p y && q y :=
  bits_ext fun i => by rw [Nat.testBit_and, bitsP_bit, bitsP_bit]; cases decide (i < n) <;> simp
theorem bitsP_less {n : Nat} {p q : Nat → Bool} (hn : n ≤ 64) : lessN (bitsP n p) (bitsP n q) = bitsP n fun y => p y && !q y := by
  refine bits_ext fun i => ?_
  by_cases hi : i < 64
  · rw [lessN_bit (bitsP_64 p hn) hi, bitsP_bit, bitsP_bit]
    cases decide (i < n) <;> simp
  · rw [Nat.testBit_lt_two_pow (Nat.lt_of_lt_of_le (lessN_lt _ _) (Nat.pow_le_pow_right (by omega) (by omega : 64 ≤ i)))]
    have : ¬ i < n := by omega
    simp [this]
theorem bitsP_add {n b : Nat} {p : Nat → Bool} (hb : b < n) : bitsP n p ||| 2 ^ b = bitsP n fun y => if y = b then true else p y :=
  bits_ext fun i => by
    rw [Nat.testBit_or, bitsP_bit, Nat.testBit_two_pow]
    by_cases e : i = b
    · subst e; simp [hb]
    · have : ¬ b = i := fun h => e h.symm
      simp [e, this]
theorem setsP_add {n a b : Nat} {P : Nat → Nat → Bool} (hb : b < n) : (setsP n P).set a (bitsP n (P a) ||| 2 ^ b) = setsP n (putP P a b true) := by
  rw [setsP_set (p := fun y => if y = b then true else P a y) (bitsP_add hb)]
  congr 1
  funext x y
  simp only [rowP, putP]
  by_cases e : x = a
  · subst e; simp
  · simp [e]
theorem setsP_rows {n : Nat} {P : Nat → Nat → Bool} (hn : n ≤ 40) : (setsP n P).map listN = relRows n P := by
  refine rows_of_sets (setsP_len n P) hn fun a ha b hb => ?_
  simp only [setsP, List.getElem_map, List.getElem_range]
  exact bitsP_bit _ _ _
theorem setsP_zero (n : Nat) : List.replicate n 0 = setsP n (fun _ _ => false) := by
  unfold setsP
  apply List.ext_getElem
  · simp
  · intro a h1 h2
    simp only [List.getElem_replicate, List.getElem_map]
    exact bits_ext fun i => by simp

/-- What valid rows say. -/
def relP (rows : List (List Int)) (a b : Nat) : Bool := decide ((b : Int) ∈ rows.getD a [])
theorem gridL_P (rows : List (List Int)) : gridL rows = gridP rows.length (relP rows) := by
  unfold gridL gridTo gridP
  apply List.map_congr_left
  intro a ha
  have ha : a < rows.length := by simpa using ha
  apply List.map_congr_left
  intro b hb
  rw [gLine_at ha (by simpa using hb)]
  simp [relP, List.getD_eq_getElem?_getD, ha]
theorem sets_P {n : Int} {rows : List (List Int)} (hr : RelIn n rows) : rows.map setN = setsP rows.length (relP rows) := by
  apply List.ext_getElem
  · simp [setsP]
  · intro a h1 h2
    have ha : a < rows.length := by simpa using h1
    simp only [List.getElem_map, setsP, List.getElem_range]
    refine bits_ext fun i => ?_
    have hin : inSize rows[a] := fun b hb => by have := hr.mem (List.getElem_mem ha) hb; omega
    rw [setN_bit hin]
    have hl := hr.len
    have : rows.getD a [] = rows[a] := by simp [List.getD_eq_getElem?_getD, ha]
    simp only [relP, this]
    by_cases hm : (i : Int) ∈ rows[a]
    · have := (hr.mem (List.getElem_mem ha) hm).2.1
      have hi : i < rows.length := by omega
      simp [hm, hi]
    · simp [hm]
/-- Valid rows are the rows of what they say. -/
theorem sorted_ext : ∀ {r s : List Int} {n : Int} {last : Int}, rowFrom n last r = true → rowFrom n last s = true → (∀ x, x ∈ r ↔ x ∈ s) → r = s
  | [], [], _, _, _, _, _ => rfl
  | [], y :: ys, _, _, _, _, h => by have := (h y).2 (by simp); simp at this
  | x :: xs, [], _, _, _, _, h => by have := (h x).1 (by simp); simp at this
  | x :: xs, y :: ys, n, last, h1, h2, h => by
    obtain ⟨a1, a2, a3⟩ := rowFrom_cons h1
    obtain ⟨b1, b2, b3⟩ := rowFrom_cons h2
    have hxy : x = y := by
      have hx := (h x).1 (by simp)
      have hy := (h y).2 (by simp)
      rcases List.mem_cons.1 hx with e | hx
      · exact e
      · rcases List.mem_cons.1 hy with e | hy
        · exact e.symm
        · have := (rowFrom_mem b3 x hx).1
          have := (rowFrom_mem a3 y hy).1
          omega
    subst hxy
    congr 1
    refine sorted_ext a3 b3 fun z => ?_
    constructor
    · intro hz
      rcases List.mem_cons.1 ((h z).1 (by simp [hz])) with e | hz'
      · have := (rowFrom_mem a3 z hz).1; omega
      · exact hz'
    · intro hz
      rcases List.mem_cons.1 ((h z).2 (by simp [hz])) with e | hz'
      · have := (rowFrom_mem b3 z hz).1; omega
      · exact hz'
theorem rowFrom_filter {n : Nat} {p : Nat → Bool} : ∀ (k : Nat) (m : Nat) (last : Int), k + m = n → last < k → rowFrom n last (List.map (fun i : Nat => (i : Int)) (List.filter p (List.range' k m))) = true
  | k, 0, last, _, _ => by simp [rowFrom]
  | k, m + 1, last, h, hl => by
    rw [List.range'_succ]
    simp only [List.filter_cons]
    split
    · simp only [List.map_cons, rowFrom]
      rw [show leI (k : Int) last = false by rw [leI_f]; omega, show leI (n : Int) (k : Int) = false by rw [leI_f]; omega]
      exact rowFrom_filter (k + 1) m k (by omega) (by omega)
    · exact rowFrom_filter (k + 1) m last (by omega) (by omega)
theorem relRows_in {n : Nat} {P : Nat → Nat → Bool} (hn : n ≤ 40) : RelIn n (relRows n P) := by
  refine ⟨by omega, by omega, by rw [relRows_len], fun r hr => ?_⟩
  unfold relRows at hr
  obtain ⟨a, _, rfl⟩ := List.mem_map.1 hr
  rw [List.range_eq_range']
  exact rowFrom_filter 0 n (-1) (by omega) (by omega)
theorem relRows_mem {n a b : Nat} {P : Nat → Nat → Bool} (ha : a < n) : (b : Int) ∈ (relRows n P).getD a [] ↔ b < n ∧ P a b = true := by
  have : (relRows n P).getD a [] = List.map (fun i : Nat => (i : Int)) (List.filter (fun b : Nat => P a b) (List.range n)) := by
    simp [relRows, List.getD_eq_getElem?_getD, ha]
  rw [this]
  simp only [List.mem_map, List.mem_filter, List.mem_range]
  constructor
  · rintro ⟨i, h, e⟩
    have : i = b := by omega
    subst this; exact h
  · intro h; exact ⟨b, h, rfl⟩
theorem relP_relRows {n : Nat} {P : Nat → Nat → Bool} {a b : Nat} (ha : a < n) (hb : b < n) : relP (relRows n P) a b = P a b := by
  unfold relP
  cases h : P a b
  · rw [decide_eq_false_iff_not, relRows_mem ha]; simp [h]
  · rw [decide_eq_true_iff, relRows_mem ha]; exact ⟨hb, h⟩
theorem rows_eq {n : Nat} {rows : List (List Int)} (hr : RelIn n rows) : rows = relRows n (relP rows) := by
  have hl := hr.len
  have hh := hr.hi
  apply List.ext_getElem
  · rw [relRows_len]; omega
  · intro a h1 h2
    have ha : a < n := by omega
    have hq := relRows_in (n := n) (P := relP rows) (by omega)
    refine sorted_ext (hr.row _ (List.getElem_mem h1)) (hq.row _ (List.getElem_mem h2)) fun x => ?_
    have e1 : rows.getD a [] = rows[a] := by simp [List.getD_eq_getElem?_getD, h1]
    have e2 : (relRows n (relP rows)).getD a [] = (relRows n (relP rows))[a] := by simp [List.getD_eq_getElem?_getD, h2]
    constructor
    · intro hx
      obtain ⟨x0, x1, _⟩ := hr.mem (List.getElem_mem h1) hx
      obtain ⟨y, rfl⟩ : ∃ y : Nat, x = (y : Int) := ⟨x.toNat, by omega⟩
      rw [← e2, relRows_mem ha]
      exact ⟨by omega, by unfold relP; rw [e1]; simpa using hx⟩
    · intro hx
      obtain ⟨x0, x1, _⟩ := hq.mem (List.getElem_mem h2) hx
      obtain ⟨y, rfl⟩ : ∃ y : Nat, x = (y : Int) := ⟨x.toNat, by omega⟩
      rw [← e2, relRows_mem ha] at hx
      have := hx.2
      unfold relP at this
      rw [e1] at this
      simpa using this

/-! ### Rounds -/
def iter {σ : Type} (f : Nat → σ → σ) : Nat → σ → σ
  | 0, s => s
  | k + 1, s => f k (iter f k s)
end Go.Proofs.Ytfdjeflnjciloaa

namespace Go.Proofs.Ytfdjeflnjciloaa
open Go.Lg
set_option maxHeartbeats 1600000
set_option maxRecDepth 10000
set_option linter.unusedVariables false
set_option linter.unusedSimpArgs false

theorem RelIn.size {n : Int} {rows : List (List Int)} (h : RelIn n rows) : rows.length ≤ 40 := by have := h.len; have := h.hi; omega
theorem RelIn.ins {n : Int} {rows : List (List Int)} (h : RelIn n rows) : ∀ r ∈ rows, inSize r ∧ r.length ≤ Go.maxLen := fun r hr =>
  ⟨fun b hb => by have := h.mem hr hb; omega, by have := h.rlen hr; unfold Go.maxLen; omega⟩
theorem alike_in {n : Int} {rows : List (List Int)} {m : Int} {rows' : List (List Int)} (h : alike n rows m rows' = true) : RelIn n rows ∧ RelIn n rows' ∧ n = m ∧ rows'.length = rows.length := by
  unfold alike at h
  simp only [Bool.and_eq_true, eqI_t] at h
  obtain ⟨⟨rfl, h1⟩, h2⟩ := h
  have a := relIn_of h1
  have b := relIn_of h2
  exact ⟨a, b, rfl, by have := a.len; have := b.len; omega⟩

theorem setsOf_P (n : Int) (rows : List (List Int)) (hr : RelIn n rows) :
    HSpec env.P 110 [relLV n rows] [] (.hs 0 ((setsP rows.length (relP rows)).map uLV).length) [.arr 100 1 ((setsP rows.length (relP rows)).map uLV)] := by
  have h := setsOf_h n rows hr.ins (by have := hr.size; omega)
  have e : (rows.map fun r => uLV (setN r)) = (setsP rows.length (relP rows)).map uLV := by rw [← sets_P hr, List.map_map]; rfl
  rw [e] at h
  exact h
theorem relationOfSets_P (N : Nat) (P : Nat → Nat → Bool) (hN : N ≤ 40) :
    HSpec env.P 111 [.sl ((setsP N P).map uLV)] [] (relHS N 0 ((relRows N P).map rowOw).length) [.tree 29 1 ((relRows N P).map rowOw)] := by
  have h := relationOfSets_h (setsP N P) (setsP_lt (by omega)) (by rw [setsP_len]; omega) (by rw [setsP_len]; unfold Go.maxLen; omega)
  rw [setsP_len, setsP_rows hN] at h
  exact h

theorem join1_spec (a b : Nat) (ha : a < 2 ^ 64) (hb : b < 2 ^ 64) : FSpec env.P 120 [uLV a, uLV b] (uLV (a ||| b)) := by
  refine FSpec_of_code env_ok (fn := Try.f120) Try.func120 rfl Try.call120 _ _ ?_
  ((repeat ((conv => whnf); first | refine brT ?_ | refine brF ?_)); conv => whnf)
  exact ⟨rfl, orI_nat ha hb, List.nodup_nil⟩
theorem meet1_spec (a b : Nat) (ha : a < 2 ^ 64) (hb : b < 2 ^ 64) : FSpec env.P 115 [uLV a, uLV b] (uLV (a &&& b)) := by
  refine FSpec_of_code env_ok (fn := Try.f115) Try.func115 rfl Try.call115 _ _ ?_
  ((repeat ((conv => whnf); first | refine brT ?_ | refine brF ?_)); conv => whnf)
  exact ⟨rfl, andI_nat ha hb, List.nodup_nil⟩
theorem less1_spec (a b : Nat) : FSpec env.P 122 [uLV a, uLV b] (uLV (lessN a b)) := by
  refine FSpec_of_code env_ok (fn := Try.f122) Try.func122 rfl Try.call122 _ _ ?_
  ((repeat ((conv => whnf); first | refine brT ?_ | refine brF ?_)); conv => whnf)
  exact ⟨rfl, andNotI_nat a b, List.nodup_nil⟩

/-- What is combined, row by row. -/
def mixP (f : Bool → Bool → Bool) (P Q : Nat → Nat → Bool) (k : Nat) : Nat → Nat → Bool := fun a b => if a < k then f (P a b) (Q a b) else P a b
def allP (f : Bool → Bool → Bool) (P Q : Nat → Nat → Bool) : Nat → Nat → Bool := fun a b => f (P a b) (Q a b)
theorem mixP_set {f : Bool → Bool → Bool} {P Q : Nat → Nat → Bool} {n k : Nat} : (setsP n (mixP f P Q k)).set k (bitsP n fun b => f (P k b) (Q k b)) = setsP n (mixP f P Q (k + 1)) := by
  rw [setsP_set rfl]
  congr 1
  funext a b
  simp only [rowP, mixP]
  by_cases e : a = k
  · subst e; simp
  · rw [if_neg e]
    have : (a < k + 1) ↔ a < k := by omega
    simp only [this]
theorem mixP_row {f : Bool → Bool → Bool} {P Q : Nat → Nat → Bool} {k : Nat} : mixP f P Q k k = P k := by funext b; simp [mixP]
theorem mixP_zero {f : Bool → Bool → Bool} {P Q : Nat → Nat → Bool} : mixP f P Q 0 = P := by funext a b; simp [mixP]
theorem mixP_all {f : Bool → Bool → Bool} {P Q : Nat → Nat → Bool} {n : Nat} : relRows n (mixP f P Q n) = relRows n (allP f P Q) := relRows_ext fun a ha b _ => by simp [mixP, allP, ha]

/-- How many rows the result has. -/
def rsN (ok : Bool) (rows : List (List Int)) : Nat := match ok with | true => rows.length | false => 0
theorem relRows_zero (P : Nat → Nat → Bool) : relRows 0 P = [] := rfl

theorem combineRows_join (n : Int) (rows : List (List Int)) (m : Int) (rows' : List (List Int)) :
    HSpec env.P 114 [relLV n rows, relLV m rows', .clos 120 []] [] (relHS (rsN (alike n rows m rows') rows) 0 ((relRows (rsN (alike n rows m rows') rows) (allP or (relP rows) (relP rows'))).map rowOw).length)
      [.tree 29 1 ((relRows (rsN (alike n rows m rows') rows) (allP or (relP rows) (relP rows'))).map rowOw)] := by
  refine HSpec_of_code (E := env.x [110, 111] 0) env_ok.x (fn := Try.f114) Try.func114 rfl Try.call114 _ _ _ _ ?_
  ((repeat ((conv => whnf); first | refine brT ?_ | refine brF ?_)); conv => whnf)
  refine ⟨_, areAlike_spec n rows m rows', ?_⟩
  ((repeat ((conv => whnf); first | refine brT ?_ | refine brF ?_)); conv => whnf)
  (refine ⟨fun h => ?_, fun h => ?_⟩ <;> rw [h])
  · rw [notB_t] at h
    rw [h]
    ((repeat ((conv => whnf); first | refine brT ?_ | refine brF ?_)); conv => whnf)
    exact ⟨[relHS 0 0 0], rfl, rfl, .nl [.tmp 0 [1] true 29 1] [.old 3] ⟨⟨rfl, rfl, trivial⟩, ⟨rfl, rfl, trivial⟩, rfl⟩⟩
  rw [notB_f] at h
  rw [h, show rsN true rows = rows.length from rfl]
  obtain ⟨hr, hs, rfl, hl⟩ := alike_in h
  have hN := hr.size
  ((repeat ((conv => whnf); first | refine brT ?_ | refine brF ?_)); conv => whnf)
  refine ⟨[], _, _, _, _, setsOf_P n rows hr, rfl, rfl, rfl, trivial, ?_⟩
  ((repeat ((conv => whnf); first | refine brT ?_ | refine brF ?_)); conv => whnf)
  have hq := setsOf_P n rows' hs
  rw [hl] at hq
  refine ⟨[], _, _, _, _, hq, rfl, rfl, rfl, trivial, ?_⟩
  ((repeat ((conv => whnf); first | refine brT ?_ | refine brF ?_)); conv => whnf)
  refine ⟨rfl, fun _ => ?_⟩
  rw [List.length_map, setsP_len]
  ((repeat ((conv => whnf); first | refine brT ?_ | refine brF ?_)); conv => whnf)
  generalize hP : relP rows = P
  generalize hQ : relP rows' = Q
  generalize rows.length = N at hN
  refine loop_rule (α := Nat) (fun k => [(20, .int .i64 (k : Int))]) (fun k => [.box (relLV n rows), .box (relLV n rows'), .box (.st [.int .i64 0, .nil]), .arr 100 1 ((setsP N (mixP or P Q k)).map uLV), .arr 100 1 ((setsP N Q).map uLV)]) (fun k => N - k) (fun k => k ≤ N) 0 (Nat.zero_le _) ?_ ?_
  · refine ⟨?_, ⟨rfl, rfl, rfl, congrArg (Blk.arr 100 1) (by rw [mixP_zero]), rfl, trivial⟩, rfl, rfl⟩
    ((repeat ((conv => whnf); refine ⟨rfl, ?_⟩)); trivial)
  intro k hk
  ((repeat ((conv => whnf); first | refine brT ?_ | refine brF ?_)); conv => whnf)
  (refine ⟨fun h1 => ?_, fun h1 => ?_⟩ <;> rw [h1])
  · have hlt : k < N := by rw [ltI_t] at h1; simp [setsP_len] at h1; omega
    have e := step_i (n := N) hlt (by unfold Go.maxLen; omega)
    have g1 : ((setsP N Q).map uLV)[k]? = some (uLV (bitsP N (Q k))) := by rw [List.getElem?_map, setsP_get hlt]; rfl
    have g2 : ((setsP N (mixP or P Q k)).map uLV)[k]? = some (uLV (bitsP N (P k))) := by rw [List.getElem?_map, setsP_get hlt, mixP_row]; rfl
    ((repeat ((conv => whnf); first | refine brT ?_ | refine brF ?_)); conv => whnf)
    refine ⟨rfl, rfl, k, rfl, by simpa [setsP_len] using hlt, ?_⟩
    ((repeat ((conv => whnf); first | refine brT ?_ | refine brF ?_)); conv => whnf)
    refine ⟨rfl, by simp, _, by simp only [getP]; rw [g1], rfl, ?_⟩
    ((repeat ((conv => whnf); first | refine brT ?_ | refine brF ?_)); conv => whnf)
    refine ⟨by simp [setsP_len], rfl, k, rfl, by simpa [setsP_len] using hlt, ?_⟩
    ((repeat ((conv => whnf); first | refine brT ?_ | refine brF ?_)); conv => whnf)
    refine ⟨by simp [setsP_len], by simp, _, by simp only [getP]; rw [g2], rfl, ?_⟩
    ((repeat ((conv => whnf); first | refine brT ?_ | refine brF ?_)); conv => whnf)
    refine ⟨_, join1_spec _ _ (bitsP_64 _ (by omega)) (bitsP_64 _ (by omega)), ?_⟩
    ((repeat ((conv => whnf); first | refine brT ?_ | refine brF ?_)); conv => whnf)
    refine ⟨by simp [setsP_len], rfl, k, rfl, by simpa [setsP_len] using hlt, ?_⟩
    ((repeat ((conv => whnf); first | refine brT ?_ | refine brF ?_)); conv => whnf)
    have e2 : ((setsP N (mixP or P Q k)).map uLV).set k (uLV (HOr.hOr (bitsP N (P k)) (bitsP N (Q k)))) = (setsP N (mixP or P Q (k + 1))).map uLV := by
      rw [show bitsP N (P k) ||| bitsP N (Q k) = _ from bitsP_or, ← mixP_set, List.map_set]
    refine ⟨by simp [setsP_len], k, [], uLV (bitsP N (P k)), rfl, by simp only [getP]; rw [g2], rfl, rfl, rfl, (setsP N (mixP or P Q (k + 1))).map uLV, by rw [g2]; exact e2, ?_⟩
    ((repeat ((conv => whnf); first | refine brT ?_ | refine brF ?_)); conv => whnf)
    refine round_end (k + 1) hlt (by omega) ⟨?_, ⟨rfl, rfl, rfl, rfl, rfl, trivial⟩, rfl, rfl⟩
    ((repeat ((conv => whnf); first | refine ⟨e, ?_⟩ | refine ⟨rfl, ?_⟩)); trivial)
  · have h3 : k = N := by rw [ltI_f] at h1; simp [setsP_len] at h1; omega
    subst h3
    ((repeat ((conv => whnf); first | refine brT ?_ | refine brF ?_)); conv => whnf)
    have hR := relationOfSets_P k (mixP or P Q k) hN
    rw [mixP_all] at hR
    refine ⟨[], _, _, _, _, hR, rfl, ?_⟩
    ((repeat ((conv => whnf); first | refine brT ?_ | refine brF ?_)); conv => whnf)
    refine ⟨by simp [setsP_len], ?_⟩
    ((repeat ((conv => whnf); first | refine brT ?_ | refine brF ?_)); conv => whnf)
    refine ⟨rfl, rfl, ⟨rfl, flatTs_rows _, trivial⟩, ?_⟩
    ((repeat ((conv => whnf); first | refine brT ?_ | refine brF ?_)); conv => whnf)
    refine ⟨[relHS k 0 ((relRows k (allP or P Q)).map rowOw).length], rfl, rfl, .inr ⟨[.old 5], ⟨rfl, rfl, trivial⟩, ⟨rfl, rfl, trivial⟩, rfl⟩⟩
theorem combineRows_meet (n : Int) (rows : List (List Int)) (m : Int) (rows' : List (List Int)) :
    HSpec env.P 114 [relLV n rows, relLV m rows', .clos 115 []] [] (relHS (rsN (alike n rows m rows') rows) 0 ((relRows (rsN (alike n rows m rows') rows) (allP and (relP rows) (relP rows'))).map rowOw).length)
      [.tree 29 1 ((relRows (rsN (alike n rows m rows') rows) (allP and (relP rows) (relP rows'))).map rowOw)] := by
  refine HSpec_of_code (E := env.x [110, 111] 0) env_ok.x (fn := Try.f114) Try.func114 rfl Try.call114 _ _ _ _ ?_
  ((repeat ((conv => whnf); first | refine brT ?_ | refine brF ?_)); conv => whnf)
  refine ⟨_, areAlike_spec n rows m rows', ?_⟩
  ((repeat ((conv => whnf); first | refine brT ?_ | refine brF ?_)); conv => whnf)
  (refine ⟨fun h => ?_, fun h => ?_⟩ <;> rw [h])
  · rw [notB_t] at h
    rw [h]
    ((repeat ((conv => whnf); first | refine brT ?_ | refine brF ?_)); conv => whnf)
    exact ⟨[relHS 0 0 0], rfl, rfl, .nl [.tmp 0 [1] true 29 1] [.old 3] ⟨⟨rfl, rfl, trivial⟩, ⟨rfl, rfl, trivial⟩, rfl⟩⟩
  rw [notB_f] at h
  rw [h, show rsN true rows = rows.length from rfl]
  obtain ⟨hr, hs, rfl, hl⟩ := alike_in h
  have hN := hr.size
  ((repeat ((conv => whnf); first | refine brT ?_ | refine brF ?_)); conv => whnf)
  refine ⟨[], _, _, _, _, setsOf_P n rows hr, rfl, rfl, rfl, trivial, ?_⟩
  ((repeat ((conv => whnf); first | refine brT ?_ | refine brF ?_)); conv => whnf)
  have hq := setsOf_P n rows' hs
  rw [hl] at hq
  refine ⟨[], _, _, _, _, hq, rfl, rfl, rfl, trivial, ?_⟩
  ((repeat ((conv => whnf); first | refine brT ?_ | refine brF ?_)); conv => whnf)
  refine ⟨rfl, fun _ => ?_⟩
  rw [List.length_map, setsP_len]
  ((repeat ((conv => whnf); first | refine brT ?_ | refine brF ?_)); conv => whnf)
  generalize hP : relP rows = P
  generalize hQ : relP rows' = Q
  generalize rows.length = N at hN
  refine loop_rule (α := Nat) (fun k => [(20, .int .i64 (k : Int))]) (fun k => [.box (relLV n rows), .box (relLV n rows'), .box (.st [.int .i64 0, .nil]), .arr 100 1 ((setsP N (mixP and P Q k)).map uLV), .arr 100 1 ((setsP N Q).map uLV)]) (fun k => N - k) (fun k => k ≤ N) 0 (Nat.zero_le _) ?_ ?_
  · refine ⟨?_, ⟨rfl, rfl, rfl, congrArg (Blk.arr 100 1) (by rw [mixP_zero]), rfl, trivial⟩, rfl, rfl⟩
    ((repeat ((conv => whnf); refine ⟨rfl, ?_⟩)); trivial)
  intro k hk
  ((repeat ((conv => whnf); first | refine brT ?_ | refine brF ?_)); conv => whnf)
  (refine ⟨fun h1 => ?_, fun h1 => ?_⟩ <;> rw [h1])
  · have hlt : k < N := by rw [ltI_t] at h1; simp [setsP_len] at h1; omega
    have e := step_i (n := N) hlt (by unfold Go.maxLen; omega)
    have g1 : ((setsP N Q).map uLV)[k]? = some (uLV (bitsP N (Q k))) := by rw [List.getElem?_map, setsP_get hlt]; rfl
    have g2 : ((setsP N (mixP and P Q k)).map uLV)[k]? = some (uLV (bitsP N (P k))) := by rw [List.getElem?_map, setsP_get hlt, mixP_row]; rfl
    ((repeat ((conv => whnf); first | refine brT ?_ | refine brF ?_)); conv => whnf)
    refine ⟨rfl, rfl, k, rfl, by simpa [setsP_len] using hlt, ?_⟩
    ((repeat ((conv => whnf); first | refine brT ?_ | refine brF ?_)); conv => whnf)
    refine ⟨rfl, by simp, _, by simp only [getP]; rw [g1], rfl, ?_⟩
    ((repeat ((conv => whnf); first | refine brT ?_ | refine brF ?_)); conv => whnf)
    refine ⟨by simp [setsP_len], rfl, k, rfl, by simpa [setsP_len] using hlt, ?_⟩
    ((repeat ((conv => whnf); first | refine brT ?_ | refine brF ?_)); conv => whnf)
    refine ⟨by simp [setsP_len], by simp, _, by simp only [getP]; rw [g2], rfl, ?_⟩
    ((repeat ((conv => whnf); first | refine brT ?_ | refine brF ?_)); conv => whnf)
    refine ⟨_, meet1_spec _ _ (bitsP_64 _ (by omega)) (bitsP_64 _ (by omega)), ?_⟩
    ((repeat ((conv => whnf); first | refine brT ?_ | refine brF ?_)); conv => whnf)
    refine ⟨by simp [setsP_len], rfl, k, rfl, by simpa [setsP_len] using hlt, ?_⟩
    ((repeat ((conv => whnf); first | refine brT ?_ | refine brF ?_)); conv => whnf)
    have e2 : ((setsP N (mixP and P Q k)).map uLV).set k (uLV (HAnd.hAnd (bitsP N (P k)) (bitsP N (Q k)))) = (setsP N (mixP and P Q (k + 1))).map uLV := by
      rw [show bitsP N (P k) &&& bitsP N (Q k) = _ from bitsP_and, ← mixP_set, List.map_set]
    refine ⟨by simp [setsP_len], k, [], uLV (bitsP N (P k)), rfl, by simp only [getP]; rw [g2], rfl, rfl, rfl, (setsP N (mixP and P Q (k + 1))).map uLV, by rw [g2]; exact e2, ?_⟩
    ((repeat ((conv => whnf); first | refine brT ?_ | refine brF ?_)); conv => whnf)
    refine round_end (k + 1) hlt (by omega) ⟨?_, ⟨rfl, rfl, rfl, rfl, rfl, trivial⟩, rfl, rfl⟩
    ((repeat ((conv => whnf); first | refine ⟨e, ?_⟩ | refine ⟨rfl, ?_⟩)); trivial)
  · have h3 : k = N := by rw [ltI_f] at h1; simp [setsP_len] at h1; omega
    subst h3
    ((repeat ((conv => whnf); first | refine brT ?_ | refine brF ?_)); conv => whnf)
    have hR := relationOfSets_P k (mixP and P Q k) hN
    rw [mixP_all] at hR
    refine ⟨[], _, _, _, _, hR, rfl, ?_⟩
    ((repeat ((conv => whnf); first | refine brT ?_ | refine brF ?_)); conv => whnf)
    refine ⟨by simp [setsP_len], ?_⟩
    ((repeat ((conv => whnf); first | refine brT ?_ | refine brF ?_)); conv => whnf)
    refine ⟨rfl, rfl, ⟨rfl, flatTs_rows _, trivial⟩, ?_⟩
    ((repeat ((conv => whnf); first | refine brT ?_ | refine brF ?_)); conv => whnf)
    refine ⟨[relHS k 0 ((relRows k (allP and P Q)).map rowOw).length], rfl, rfl, .inr ⟨[.old 5], ⟨rfl, rfl, trivial⟩, ⟨rfl, rfl, trivial⟩, rfl⟩⟩
theorem combineRows_less (n : Int) (rows : List (List Int)) (m : Int) (rows' : List (List Int)) :
    HSpec env.P 114 [relLV n rows, relLV m rows', .clos 122 []] [] (relHS (rsN (alike n rows m rows') rows) 0 ((relRows (rsN (alike n rows m rows') rows) (allP (fun x y => x && !y) (relP rows) (relP rows'))).map rowOw).length)
      [.tree 29 1 ((relRows (rsN (alike n rows m rows') rows) (allP (fun x y => x && !y) (relP rows) (relP rows'))).map rowOw)] := by
  refine HSpec_of_code (E := env.x [110, 111] 0) env_ok.x (fn := Try.f114) Try.func114 rfl Try.call114 _ _ _ _ ?_
  ((repeat ((conv => whnf); first | refine brT ?_ | refine brF ?_)); conv => whnf)
  refine ⟨_, areAlike_spec n rows m rows', ?_⟩
  ((repeat ((conv => whnf); first | refine brT ?_ | refine brF ?_)); conv => whnf)
  (refine ⟨fun h => ?_, fun h => ?_⟩ <;> rw [h])
  · rw [notB_t] at h
    rw [h]
    ((repeat ((conv => whnf); first | refine brT ?_ | refine brF ?_)); conv => whnf)
    exact ⟨[relHS 0 0 0], rfl, rfl, .nl [.tmp 0 [1] true 29 1] [.old 3] ⟨⟨rfl, rfl, trivial⟩, ⟨rfl, rfl, trivial⟩, rfl⟩⟩
  rw [notB_f] at h
  rw [h, show rsN true rows = rows.length from rfl]
  obtain ⟨hr, hs, rfl, hl⟩ := alike_in h
  have hN := hr.size
  ((repeat ((conv => whnf); first | refine brT ?_ | refine brF ?_)); conv => whnf)
  refine ⟨[], _, _, _, _, setsOf_P n rows hr, rfl, rfl, rfl, trivial, ?_⟩
  ((repeat ((conv => whnf); first | refine brT ?_ | refine brF ?_)); conv => whnf)
  have hq := setsOf_P n rows' hs
  rw [hl] at hq
  refine ⟨[], _, _, _, _, hq, rfl, rfl, rfl, trivial, ?_⟩
  ((repeat ((conv => whnf); first | refine brT ?_ | refine brF ?_)); conv => whnf)
  refine ⟨rfl, fun _ => ?_⟩
  rw [List.length_map, setsP_len]
  ((repeat ((conv => whnf); first | refine brT ?_ | refine brF ?_)); conv => whnf)
  generalize hP : relP rows = P
  generalize hQ : relP rows' = Q
  generalize rows.length = N at hN
  refine loop_rule (α := Nat) (fun k => [(20, .int .i64 (k : Int))]) (fun k => [.box (relLV n rows), .box (relLV n rows'), .box (.st [.int .i64 0, .nil]), .arr 100 1 ((setsP N (mixP (fun x y => x && !y) P Q k)).map uLV), .arr 100 1 ((setsP N Q).map uLV)]) (fun k => N - k) (fun k => k ≤ N) 0 (Nat.zero_le _) ?_ ?_
  · refine ⟨?_, ⟨rfl, rfl, rfl, congrArg (Blk.arr 100 1) (by rw [mixP_zero]), rfl, trivial⟩, rfl, rfl⟩
    ((repeat ((conv => whnf); refine ⟨rfl, ?_⟩)); trivial)
  intro k hk
  ((repeat ((conv => whnf); first | refine brT ?_ | refine brF ?_)); conv => whnf)
  (refine ⟨fun h1 => ?_, fun h1 => ?_⟩ <;> rw [h1])
  · have hlt : k < N := by rw [ltI_t] at h1; simp [setsP_len] at h1; omega
    have e := step_i (n := N) hlt (by unfold Go.maxLen; omega)
    have g1 : ((setsP N Q).map uLV)[k]? = some (uLV (bitsP N (Q k))) := by rw [List.getElem?_map, setsP_get hlt]; rfl
    have g2 : ((setsP N (mixP (fun x y => x && !y) P Q k)).map uLV)[k]? = some (uLV (bitsP N (P k))) := by rw [List.getElem?_map, setsP_get hlt, mixP_row]; rfl
    ((repeat ((conv => whnf); first | refine brT ?_ | refine brF ?_)); conv => whnf)
    refine ⟨rfl, rfl, k, rfl, by simpa [setsP_len] using hlt, ?_⟩
    ((repeat ((conv => whnf); first | refine brT ?_ | refine brF ?_)); conv => whnf)
    refine ⟨rfl, by simp, _, by simp only [getP]; rw [g1], rfl, ?_⟩
    ((repeat ((conv => whnf); first | refine brT ?_ | refine brF ?_)); conv => whnf)
    refine ⟨by simp [setsP_len], rfl, k, rfl, by simpa [setsP_len] using hlt, ?_⟩
    ((repeat ((conv => whnf); first | refine brT ?_ | refine brF ?_)); conv => whnf)
    refine ⟨by simp [setsP_len], by simp, _, by simp only [getP]; rw [g2], rfl, ?_⟩
    ((repeat ((conv => whnf); first | refine brT ?_ | refine brF ?_)); conv => whnf)
    refine ⟨_, less1_spec _ _, ?_⟩
    ((repeat ((conv => whnf); first | refine brT ?_ | refine brF ?_)); conv => whnf)
    refine ⟨by simp [setsP_len], rfl, k, rfl, by simpa [setsP_len] using hlt, ?_⟩
    ((repeat ((conv => whnf); first | refine brT ?_ | refine brF ?_)); conv => whnf)
    have e2 : ((setsP N (mixP (fun x y => x && !y) P Q k)).map uLV).set k (uLV (lessN (bitsP N (P k)) (bitsP N (Q k)))) = (setsP N (mixP (fun x y => x && !y) P Q (k + 1))).map uLV := by
      rw [bitsP_less (by omega), ← mixP_set, List.map_set]
    refine ⟨by simp [setsP_len], k, [], uLV (bitsP N (P k)), rfl, by simp only [getP]; rw [g2], rfl, rfl, rfl, (setsP N (mixP (fun x y => x && !y) P Q (k + 1))).map uLV, by rw [g2]; exact e2, ?_⟩
    ((repeat ((conv => whnf); first | refine brT ?_ | refine brF ?_)); conv => whnf)
    refine round_end (k + 1) hlt (by omega) ⟨?_, ⟨rfl, rfl, rfl, rfl, rfl, trivial⟩, rfl, rfl⟩
    ((repeat ((conv => whnf); first | refine ⟨e, ?_⟩ | refine ⟨rfl, ?_⟩)); trivial)
  · have h3 : k = N := by rw [ltI_f] at h1; simp [setsP_len] at h1; omega
    subst h3
    ((repeat ((conv => whnf); first | refine brT ?_ | refine brF ?_)); conv => whnf)
    have hR := relationOfSets_P k (mixP (fun x y => x && !y) P Q k) hN
    rw [mixP_all] at hR
    refine ⟨[], _, _, _, _, hR, rfl, ?_⟩
    ((repeat ((conv => whnf); first | refine brT ?_ | refine brF ?_)); conv => whnf)
    refine ⟨by simp [setsP_len], ?_⟩
    ((repeat ((conv => whnf); first | refine brT ?_ | refine brF ?_)); conv => whnf)
    refine ⟨rfl, rfl, ⟨rfl, flatTs_rows _, trivial⟩, ?_⟩
    ((repeat ((conv => whnf); first | refine brT ?_ | refine brF ?_)); conv => whnf)
    refine ⟨[relHS k 0 ((relRows k (allP (fun x y => x && !y) P Q)).map rowOw).length], rfl, rfl, .inr ⟨[.old 5], ⟨rfl, rfl, trivial⟩, ⟨rfl, rfl, trivial⟩, rfl⟩⟩
end Go.Proofs.Ytfdjeflnjciloaa

namespace Go.Proofs.Ytfdjeflnjciloaa
open Go.Lg
set_option maxHeartbeats 1600000
set_option maxRecDepth 10000
set_option linter.unusedVariables false
set_option linter.unusedSimpArgs false

theorem add_elem (N : Nat) (P : Nat → Nat → Bool) (a b : Nat) (ha : a < N) (hb : b < N) (hN : N ≤ 40) (n : Nat) (hn : n = ((setsP N P).map uLV).length) :
    HSpec env.P 116 [.hp 0 n [a], .int .i64 (b : Int)] [.arr 100 1 ((setsP N P).map uLV)] (.tup []) [.arr 100 1 ((setsP N (putP P a b true)).map uLV)] := by
  subst hn
  have g1 : ((setsP N P).map uLV)[a]? = some (uLV (bitsP N (P a))) := by rw [List.getElem?_map, setsP_get ha]; rfl
  refine HSpec_of_code (E := env.x [] 1) env_ok.x (fn := Try.f116) Try.func116 rfl Try.call116 _ _ _ _ ?_
  ((repeat ((conv => whnf); first | refine brT ?_ | refine brF ?_)); conv => whnf)
  refine ⟨true, by kernel_rfl, ?_⟩
  ((repeat ((conv => whnf); first | refine brT ?_ | refine brF ?_)); conv => whnf)
  refine ⟨rfl, by simp, _, by simp only [getP]; rw [g1], rfl, ?_⟩
  ((repeat ((conv => whnf); first | refine brT ?_ | refine brF ?_)); conv => whnf)
  refine ⟨by omega, ?_⟩
  ((repeat ((conv => whnf); first | refine brT ?_ | refine brF ?_)); conv => whnf)
  have e : LV.int .u64 (Go.Lg.orI .u64 ((bitsP N (P a) : Nat) : Int) (shlI .u64 1 (b : Int))) = uLV (bitsP N (P a) ||| 2 ^ b) := by
    rw [shlI_one (by omega) (by omega), orI_nat (bitsP_64 _ (by omega)) (two_lt (by omega))]; rfl
  have e2 : ((setsP N P).map uLV).set a (uLV (bitsP N (P a) ||| 2 ^ b)) = (setsP N (putP P a b true)).map uLV := by rw [← setsP_add hb, List.map_set]
  refine ⟨rfl, a, [], uLV (bitsP N (P a)), rfl, by simp only [getP]; rw [g1], rfl, rfl, rfl, (setsP N (putP P a b true)).map uLV, by rw [g1]; show List.set _ _ (LV.int _ _) = _; rw [e]; exact e2, ?_⟩
  ((repeat ((conv => whnf); first | refine brT ?_ | refine brF ?_)); conv => whnf)
  exact ⟨[], rfl, rfl, .inl ⟨trivial, ⟨rfl, trivial⟩, rfl, rfl⟩⟩
theorem impl_join (n : Int) (rows : List (List Int)) (m : Int) (rows' : List (List Int)) :
    HSpec env.P 41 [relLV n rows, relLV m rows'] [] (relHS (rsN (alike n rows m rows') rows) 0 ((relRows (rsN (alike n rows m rows') rows) (allP or (relP rows) (relP rows'))).map rowOw).length)
      [.tree 29 1 ((relRows (rsN (alike n rows m rows') rows) (allP or (relP rows) (relP rows'))).map rowOw)] := by
  refine HSpec_of_code (E := env.x [114] 0) env_ok.x (fn := Try.f41) Try.func41 rfl Try.call41 _ _ _ _ ?_
  ((repeat ((conv => whnf); first | refine brT ?_ | refine brF ?_)); conv => whnf)
  refine ⟨[], _, _, _, _, combineRows_join n rows m rows', rfl, rfl, rfl, trivial, ?_⟩
  ((repeat ((conv => whnf); first | refine brT ?_ | refine brF ?_)); conv => whnf)
  refine ⟨[relHS (rsN (alike n rows m rows') rows) 0 ((relRows (rsN (alike n rows m rows') rows) (allP or (relP rows) (relP rows'))).map rowOw).length], rfl, rfl, .inr ⟨[.old 3], ⟨rfl, rfl, trivial⟩, ⟨rfl, rfl, trivial⟩, rfl⟩⟩
theorem impl_meet (n : Int) (rows : List (List Int)) (m : Int) (rows' : List (List Int)) :
    HSpec env.P 38 [relLV n rows, relLV m rows'] [] (relHS (rsN (alike n rows m rows') rows) 0 ((relRows (rsN (alike n rows m rows') rows) (allP and (relP rows) (relP rows'))).map rowOw).length)
      [.tree 29 1 ((relRows (rsN (alike n rows m rows') rows) (allP and (relP rows) (relP rows'))).map rowOw)] := by
  refine HSpec_of_code (E := env.x [114] 0) env_ok.x (fn := Try.f38) Try.func38 rfl Try.call38 _ _ _ _ ?_
  ((repeat ((conv => whnf); first | refine brT ?_ | refine brF ?_)); conv => whnf)
  refine ⟨[], _, _, _, _, combineRows_meet n rows m rows', rfl, rfl, rfl, trivial, ?_⟩
  ((repeat ((conv => whnf); first | refine brT ?_ | refine brF ?_)); conv => whnf)
  refine ⟨[relHS (rsN (alike n rows m rows') rows) 0 ((relRows (rsN (alike n rows m rows') rows) (allP and (relP rows) (relP rows'))).map rowOw).length], rfl, rfl, .inr ⟨[.old 3], ⟨rfl, rfl, trivial⟩, ⟨rfl, rfl, trivial⟩, rfl⟩⟩
theorem impl_less (n : Int) (rows : List (List Int)) (m : Int) (rows' : List (List Int)) :
    HSpec env.P 44 [relLV n rows, relLV m rows'] [] (relHS (rsN (alike n rows m rows') rows) 0 ((relRows (rsN (alike n rows m rows') rows) (allP (fun x y => x && !y) (relP rows) (relP rows'))).map rowOw).length)
      [.tree 29 1 ((relRows (rsN (alike n rows m rows') rows) (allP (fun x y => x && !y) (relP rows) (relP rows'))).map rowOw)] := by
  refine HSpec_of_code (E := env.x [114] 0) env_ok.x (fn := Try.f44) Try.func44 rfl Try.call44 _ _ _ _ ?_
  ((repeat ((conv => whnf); first | refine brT ?_ | refine brF ?_)); conv => whnf)
  refine ⟨[], _, _, _, _, combineRows_less n rows m rows', rfl, rfl, rfl, trivial, ?_⟩
  ((repeat ((conv => whnf); first | refine brT ?_ | refine brF ?_)); conv => whnf)
  refine ⟨[relHS (rsN (alike n rows m rows') rows) 0 ((relRows (rsN (alike n rows m rows') rows) (allP (fun x y => x && !y) (relP rows) (relP rows'))).map rowOw).length], rfl, rfl, .inr ⟨[.old 3], ⟨rfl, rfl, trivial⟩, ⟨rfl, rfl, trivial⟩, rfl⟩⟩

/-! ### One on the diagonal -/
def idP (k : Nat) : Nat → Nat → Bool := fun a b => decide (a = b ∧ a < k)
theorem idP_put (k : Nat) : putP (idP k) k k true = idP (k + 1) := by
  funext a b
  simp only [putP, idP]
  by_cases e : a = k ∧ b = k
  · obtain ⟨rfl, rfl⟩ := e; simp
  · rw [if_neg e, decide_eq_decide]
    constructor
    · rintro ⟨rfl, h⟩; exact ⟨rfl, by omega⟩
    · rintro ⟨rfl, h⟩; exact ⟨rfl, by omega⟩
theorem idP_zero : idP 0 = fun _ _ => false := by funext a b; simp [idP]
def sizN (n : Int) : Nat := empN n
theorem implIdentity_h (n : Int) : HSpec env.P 43 [.int .i64 n] [] (relHS (empN n : Nat) 0 ((relRows (empN n) (idP (empN n))).map rowOw).length) [.tree 29 1 ((relRows (empN n) (idP (empN n))).map rowOw)] := by
  refine HSpec_of_code (E := env.x [111, 116] 0) env_ok.x (fn := Try.f43) Try.func43 rfl Try.call43 _ _ _ _ ?_
  ((repeat ((conv => whnf); first | refine brT ?_ | refine brF ?_)); conv => whnf)
  refine ⟨_, isSize_spec n, ?_⟩
  ((repeat ((conv => whnf); first | refine brT ?_ | refine brF ?_)); conv => whnf)
  (refine ⟨fun h => ?_, fun h => ?_⟩ <;> rw [h])
  · ((repeat ((conv => whnf); first | refine brT ?_ | refine brF ?_)); conv => whnf)
    rw [empN_no (isSize_no h)]
    exact ⟨[relHS 0 0 0], rfl, rfl, .nl [.tmp 0 [1] true 29 1] [.old 1] ⟨⟨rfl, rfl, trivial⟩, ⟨rfl, rfl, trivial⟩, rfl⟩⟩
  obtain ⟨h0, h1⟩ := isSize_ok h
  have hn := empN_ok h0 h1
  have hk := empN_le n
  generalize empN n = N at hn hk
  subst hn
  ((repeat ((conv => whnf); first | refine brT ?_ | refine brF ?_)); conv => whnf)
  refine ⟨N, rfl, rfl, by show 8 * N ≤ _; omega, by unfold Go.maxLen; omega, rfl, by decide, ?_⟩
  have ez : List.replicate N (LV.int .u64 0) = (setsP N (idP 0)).map uLV := by rw [idP_zero, ← setsP_zero]; simp [uLV]
  ((repeat ((conv => whnf); first | refine brT ?_ | refine brF ?_)); conv => whnf)
  rw [ez]
  refine ⟨by simp [setsP_len], fun _ => ?_⟩
  ((repeat ((conv => whnf); first | refine brT ?_ | refine brF ?_)); conv => whnf)
  refine loop_rule (α := Nat) (fun k => [(13, .int .i64 (k : Int))]) (fun k => [.box (.st [.int .i64 0, .nil]), .arr 100 1 ((setsP N (idP k)).map uLV)]) (fun k => N - k) (fun k => k ≤ N) 0 (Nat.zero_le _) ?_ ?_
  · refine ⟨?_, ⟨rfl, rfl, trivial⟩, rfl, rfl⟩
    ((repeat ((conv => whnf); refine ⟨rfl, ?_⟩)); trivial)
  intro k hk'
  ((repeat ((conv => whnf); first | refine brT ?_ | refine brF ?_)); conv => whnf)
  (refine ⟨fun g1 => ?_, fun g1 => ?_⟩ <;> rw [g1])
  · have hlt : k < N := by rw [ltI_t] at g1; simp [setsP_len] at g1; omega
    have e := step_i (n := N) hlt (by unfold Go.maxLen; omega)
    ((repeat ((conv => whnf); first | refine brT ?_ | refine brF ?_)); conv => whnf)
    refine ⟨by simp [setsP_len], rfl, k, rfl, by simpa [setsP_len] using hlt, ?_⟩
    ((repeat ((conv => whnf); first | refine brT ?_ | refine brF ?_)); conv => whnf)
    refine ⟨[1], _, _, _, _, add_elem N (idP k) k k hlt hlt hk _ (by simp [setsP_len]), rfl, rfl, rfl, trivial, ?_⟩
    ((repeat ((conv => whnf); first | refine brT ?_ | refine brF ?_)); conv => whnf)
    refine round_end (k + 1) hlt (by omega) ⟨?_, ⟨rfl, congrArg (fun P => Blk.arr 100 1 ((setsP N P).map uLV)) (idP_put k), trivial⟩, rfl, rfl⟩
    ((repeat ((conv => whnf); first | refine ⟨e, ?_⟩ | refine ⟨rfl, ?_⟩)); trivial)
  · have h3 : k = N := by rw [ltI_f] at g1; simp [setsP_len] at g1; omega
    subst h3
    ((repeat ((conv => whnf); first | refine brT ?_ | refine brF ?_)); conv => whnf)
    refine ⟨[], _, _, _, _, relationOfSets_P k (idP k) hk, rfl, ?_⟩
    ((repeat ((conv => whnf); first | refine brT ?_ | refine brF ?_)); conv => whnf)
    refine ⟨by simp [setsP_len], ?_⟩
    ((repeat ((conv => whnf); first | refine brT ?_ | refine brF ?_)); conv => whnf)
    refine ⟨rfl, rfl, ⟨rfl, flatTs_rows _, trivial⟩, ?_⟩
    ((repeat ((conv => whnf); first | refine brT ?_ | refine brF ?_)); conv => whnf)
    refine ⟨[relHS k 0 ((relRows k (idP k)).map rowOw).length], rfl, rfl, .inr ⟨[.old 2], ⟨rfl, rfl, trivial⟩, ⟨rfl, rfl, trivial⟩, rfl⟩⟩

/-! ### The converse -/
theorem gAt_succ {rows : List (List Int)} {k i b : Nat} (hk : k < rows.length) (hi : i < rows[k].length) (hb : rows[k][i] = (b : Int)) (x y : Nat) : gAt rows k (i + 1) x y = if x = k ∧ y = b then true else gAt rows k i x y := by
  have hg : rows.getD k [] = rows[k] := by simp [List.getD_eq_getElem?_getD, hk]
  unfold gAt
  rw [hg, List.take_succ_eq_append_getElem hi, List.getD_eq_getElem?_getD]
  simp only [List.mem_append, List.mem_singleton, hb]
  by_cases e : x = k ∧ y = b
  · obtain ⟨rfl, rfl⟩ := e; simp
  · rw [if_neg e, decide_eq_decide]
    have : ¬ (x = k ∧ (y : Int) = (b : Int)) := fun h => e ⟨h.1, by omega⟩
    constructor
    · rintro (h | ⟨h1, h2 | h2⟩)
      · exact .inl h
      · exact .inr ⟨h1, h2⟩
      · exact absurd ⟨h1, h2⟩ this
    · rintro (h | ⟨h1, h2⟩)
      · exact .inl h
      · exact .inr ⟨h1, .inl h2⟩
theorem gAt_row {rows : List (List Int)} {k : Nat} (hk : k < rows.length) (x y : Nat) : gAt rows k rows[k].length x y = gAt rows (k + 1) 0 x y := by
  have hg : rows.getD k [] = rows[k] := by simp [List.getD_eq_getElem?_getD, hk]
  unfold gAt
  rw [hg, List.take_length, decide_eq_decide]
  constructor
  · rintro (⟨h1, h2⟩ | ⟨h1, h2⟩)
    · exact .inl ⟨by omega, h2⟩
    · subst h1; exact .inl ⟨by omega, by rw [hg]; exact h2⟩
  · rintro (⟨h1, h2⟩ | ⟨h1, h2⟩)
    · by_cases e : x = k
      · subst e; rw [hg] at h2; exact .inr ⟨rfl, h2⟩
      · exact .inl ⟨by omega, h2⟩
    · simp at h2
theorem gAt_zero (rows : List (List Int)) (x y : Nat) : gAt rows 0 0 x y = false := by simp [gAt]
theorem gAt_all {rows : List (List Int)} {x : Nat} (hx : x < rows.length) (y : Nat) : gAt rows rows.length 0 x y = relP rows x y := by
  unfold gAt relP
  rw [decide_eq_decide]
  simp [hx]
/-- Turned round: what has been set when k rows are done, and i numbers of the next. -/
def cvP (rows : List (List Int)) (k i : Nat) : Nat → Nat → Bool := fun x y => gAt rows k i y x
def convP (rows : List (List Int)) : Nat → Nat → Bool := fun x y => relP rows y x
theorem cvP_put {rows : List (List Int)} {k i b : Nat} (hk : k < rows.length) (hi : i < rows[k].length) (hb : rows[k][i] = (b : Int)) : putP (cvP rows k i) b k true = cvP rows k (i + 1) := by
  funext x y
  simp only [putP, cvP]
  rw [gAt_succ hk hi hb]
  simp only [and_comm]
theorem cvP_row {rows : List (List Int)} {k : Nat} (hk : k < rows.length) : cvP rows k rows[k].length = cvP rows (k + 1) 0 := by funext x y; exact gAt_row hk y x
theorem cvP_zero (rows : List (List Int)) : cvP rows 0 0 = fun _ _ => false := by funext x y; exact gAt_zero rows y x
theorem cvP_all (rows : List (List Int)) : relRows rows.length (cvP rows rows.length 0) = relRows rows.length (convP rows) := relRows_ext fun a _ b hb => gAt_all hb a

theorem implConverse_h (n : Int) (rows : List (List Int)) :
    HSpec env.P 39 [relLV n rows] [] (relHS (rsN (relOk n rows) rows) 0 ((relRows (rsN (relOk n rows) rows) (convP rows)).map rowOw).length) [.tree 29 1 ((relRows (rsN (relOk n rows) rows) (convP rows)).map rowOw)] := by
  refine HSpec_of_code (E := env.x [111, 116] 0) env_ok.x (fn := Try.f39) Try.func39 rfl Try.call39 _ _ _ _ ?_
  ((repeat ((conv => whnf); first | refine brT ?_ | refine brF ?_)); conv => whnf)
  refine ⟨_, isRelation_impl n rows, ?_⟩
  ((repeat ((conv => whnf); first | refine brT ?_ | refine brF ?_)); conv => whnf)
  (refine ⟨fun h => ?_, fun h => ?_⟩ <;> rw [h])
  · rw [notB_t] at h
    rw [h]
    ((repeat ((conv => whnf); first | refine brT ?_ | refine brF ?_)); conv => whnf)
    exact ⟨[relHS 0 0 0], rfl, rfl, .nl [.tmp 0 [1] true 29 1] [.old 2] ⟨⟨rfl, rfl, trivial⟩, ⟨rfl, rfl, trivial⟩, rfl⟩⟩
  rw [notB_f] at h
  rw [h, show rsN true rows = rows.length from rfl]
  have hr := relIn_of h
  have hN := hr.size
  obtain rfl : n = (rows.length : Int) := by have := hr.len; omega
  ((repeat ((conv => whnf); first | refine brT ?_ | refine brF ?_)); conv => whnf)
  refine ⟨rows.length, rfl, rfl, by show 8 * rows.length ≤ _; omega, by unfold Go.maxLen; omega, rfl, by decide, ?_⟩
  have ez : List.replicate rows.length (LV.int .u64 0) = (setsP rows.length (cvP rows 0 0)).map uLV := by rw [cvP_zero, ← setsP_zero]; simp [uLV]
  ((repeat ((conv => whnf); first | refine brT ?_ | refine brF ?_)); conv => whnf)
  rw [ez]
  intro hm
  have hm' : rows.length ≤ Go.maxLen := by simpa using hm
  ((repeat ((conv => whnf); first | refine brT ?_ | refine brF ?_)); conv => whnf)
  refine loop_rule (α := Nat) (fun k => [(18, .int .i64 (k : Int))]) (fun k => [.box (relLV rows.length rows), .box (.st [.int .i64 0, .nil]), .arr 100 1 ((setsP rows.length (cvP rows k 0)).map uLV)]) (fun k => rows.length - k) (fun k => k ≤ rows.length) 0 (Nat.zero_le _) ?_ ?_
  · refine ⟨?_, ⟨rfl, rfl, rfl, trivial⟩, rfl, rfl⟩
    ((repeat ((conv => whnf); refine ⟨rfl, ?_⟩)); trivial)
  intro k hk
  ((repeat ((conv => whnf); first | refine brT ?_ | refine brF ?_)); conv => whnf)
  (refine ⟨fun h1 => ?_, fun h1 => ?_⟩ <;> rw [h1])
  · have hlt : k < rows.length := by rw [ltI_t] at h1; simp at h1; omega
    have e1 := step_i hlt hm'
    ((repeat ((conv => whnf); first | refine brT ?_ | refine brF ?_)); conv => whnf)
    refine ⟨k, rowSl rows[k], rfl, by simp [hlt], rfl, ?_⟩
    ((repeat ((conv => whnf); first | refine brT ?_ | refine brF ?_)); conv => whnf)
    intro hmr
    have hmr' : rows[k].length ≤ Go.maxLen := by simpa using hmr
    ((repeat ((conv => whnf); first | refine brT ?_ | refine brF ?_)); conv => whnf)
    refine loop_rule (α := Nat) (fun i => [(25, .int .i64 (i : Int))]) (fun i => [.box (relLV rows.length rows), .box (.st [.int .i64 0, .nil]), .arr 100 1 ((setsP rows.length (cvP rows k i)).map uLV)]) (fun i => rows[k].length - i) (fun i => i ≤ rows[k].length) 0 (Nat.zero_le _) ?_ ?_
    · refine ⟨?_, ⟨rfl, rfl, rfl, trivial⟩, rfl, rfl⟩
      ((repeat ((conv => whnf); refine ⟨rfl, ?_⟩)); trivial)
    intro i hi
    generalize hKK : kk _ = KK
    ((repeat ((conv => whnf); first | refine brT ?_ | refine brF ?_)); conv => whnf)
    (refine ⟨fun h2 => ?_, fun h2 => ?_⟩ <;> rw [h2])
    · have hil : i < rows[k].length := by rw [ltI_t] at h2; simp at h2; omega
      have e2 := step_i hil hmr'
      obtain ⟨b0, b1, _⟩ := hr.mem (List.getElem_mem hlt) (List.getElem_mem hil)
      obtain ⟨b, hb⟩ : ∃ b : Nat, rows[k][i] = (b : Int) := ⟨rows[k][i].toNat, by omega⟩
      have hbl : b < rows.length := by omega
      ((repeat ((conv => whnf); first | refine brT ?_ | refine brF ?_)); conv => whnf)
      refine ⟨i, intLV rows[k][i], rfl, by simp [hil], rfl, ?_⟩
      rw [hb]
      ((repeat ((conv => whnf); first | refine brT ?_ | refine brF ?_)); conv => whnf)
      refine ⟨by simp [setsP_len], rfl, b, rfl, by simpa [setsP_len] using hbl, ?_⟩
      ((repeat ((conv => whnf); first | refine brT ?_ | refine brF ?_)); conv => whnf)
      refine ⟨[2], _, _, _, _, add_elem rows.length (cvP rows k i) b k hbl hlt hN rows.length (by simp [setsP_len]), rfl, ?_⟩
      ((repeat ((conv => whnf); first | refine brT ?_ | refine brF ?_)); conv => whnf)
      refine ⟨rfl, rfl, trivial, ?_⟩
      ((repeat ((conv => whnf); first | refine brT ?_ | refine brF ?_)); conv => whnf)
      refine round_end (i + 1) hil (by omega) ⟨?_, ⟨rfl, rfl, congrArg (fun P => Blk.arr 100 1 ((setsP rows.length P).map uLV)) (cvP_put hlt hil hb), trivial⟩, rfl, rfl⟩
      ((repeat ((conv => whnf); first | refine ⟨e2, ?_⟩ | refine ⟨rfl, ?_⟩)); trivial)
    · have hil : i = rows[k].length := by rw [ltI_f] at h2; simp at h2; omega
      subst hil
      subst hKK
      ((repeat ((conv => whnf); first | refine brT ?_ | refine brF ?_)); conv => whnf)
      refine round_end (k + 1) hlt (by omega) ⟨?_, ⟨rfl, rfl, congrArg (fun P => Blk.arr 100 1 ((setsP rows.length P).map uLV)) (cvP_row hlt), trivial⟩, rfl, rfl⟩
      ((repeat ((conv => whnf); first | refine ⟨e1, ?_⟩ | refine ⟨rfl, ?_⟩)); trivial)
  · have h3 : k = rows.length := by rw [ltI_f] at h1; simp at h1; omega
    subst h3
    ((repeat ((conv => whnf); first | refine brT ?_ | refine brF ?_)); conv => whnf)
    have hR := relationOfSets_P rows.length (cvP rows rows.length 0) hN
    rw [cvP_all] at hR
    refine ⟨[], _, _, _, _, hR, rfl, ?_⟩
    ((repeat ((conv => whnf); first | refine brT ?_ | refine brF ?_)); conv => whnf)
    refine ⟨by simp [setsP_len], ?_⟩
    ((repeat ((conv => whnf); first | refine brT ?_ | refine brF ?_)); conv => whnf)
    refine ⟨rfl, rfl, ⟨rfl, flatTs_rows _, trivial⟩, ?_⟩
    ((repeat ((conv => whnf); first | refine brT ?_ | refine brF ?_)); conv => whnf)
    refine ⟨[relHS rows.length 0 ((relRows rows.length (convP rows)).map rowOw).length], rfl, rfl, .inr ⟨[.old 3], ⟨rfl, rfl, trivial⟩, ⟨rfl, rfl, trivial⟩, rfl⟩⟩
end Go.Proofs.Ytfdjeflnjciloaa

namespace Go.Proofs.Ytfdjeflnjciloaa
open Go.Lg
set_option maxHeartbeats 1600000
set_option maxRecDepth 10000
set_option linter.unusedVariables false
set_option linter.unusedSimpArgs false

/-! ### The closure, by rows and place by place -/
def stepRow (k a : Nat) (P : Nat → Nat → Bool) : Nat → Nat → Bool := match P a k with | true => rowP P a (fun y => P a y || P k y) | false => P
def stepCell (k a b : Nat) (P : Nat → Nat → Bool) : Nat → Nat → Bool := match P a k && P k b with | true => putP P a b true | false => P
def roundR (N k : Nat) (P : Nat → Nat → Bool) : Nat → Nat → Bool := iter (stepRow k) N P
def roundC (N k : Nat) (P : Nat → Nat → Bool) : Nat → Nat → Bool := iter (fun a P => iter (stepCell k a) N P) N P
def viaP (k : Nat) (P : Nat → Nat → Bool) : Nat → Nat → Bool := fun a b => P a b || (P a k && P k b)
def closP (N : Nat) (P : Nat → Nat → Bool) : Nat → Nat → Bool := iter viaP N P

theorem iter_row (k : Nat) (P : Nat → Nat → Bool) : ∀ i, iter (stepRow k) i P = fun a b => if a < i then viaP k P a b else P a b
  | 0 => by funext a b; simp [iter]
  | i + 1 => by
    simp only [iter]
    rw [iter_row k P i]
    have hik : (if i < i then viaP k P i k else P i k) = P i k := by simp
    have hk : ∀ b, (if k < i then (P k b || (P k k && P k b)) else P k b) = P k b := fun b => by split <;> cases P k b <;> simp
    funext a b
    simp only [stepRow, hik]
    cases h : P i k
    · simp only []
      by_cases e : a = i
      · subst e; simp [viaP, h]
      · have : (a < i + 1) ↔ a < i := by omega
        simp only [this]
    · simp only [rowP]
      by_cases e : a = i
      · subst e; simp [viaP, h, hk]
      · have : (a < i + 1) ↔ a < i := by omega
        rw [if_neg e]
        simp only [this]
theorem stepCell_of {k a b : Nat} {P' P : Nat → Nat → Bool} (h1 : P' a k = P a k) (h2 : P' k b = P k b) : stepCell k a b P' = match P a k && P k b with | true => putP P' a b true | false => P' := by
  unfold stepCell; rw [h1, h2]
theorem iter_cell (k a : Nat) (P : Nat → Nat → Bool) : ∀ i, iter (stepCell k a) i P = fun x y => if x = a ∧ y < i then viaP k P x y else P x y
  | 0 => by funext x y; simp [iter]
  | i + 1 => by
    simp only [iter]
    rw [iter_cell k a P i]
    rw [stepCell_of (P := P) (by split <;> simp only [viaP] <;> cases P a k <;> simp) (by simp)]
    funext x y
    cases h : (P a k && P k i)
    · show (if x = a ∧ y < i then viaP k P x y else P x y) = _
      by_cases e : x = a ∧ y = i
      · obtain ⟨rfl, rfl⟩ := e; simp [viaP, h]
      · have : (x = a ∧ y < i + 1) ↔ (x = a ∧ y < i) := by
          constructor
          · rintro ⟨h1, h2⟩; exact ⟨h1, by rcases Nat.lt_or_ge y i with h | h; exact h; exact absurd ⟨h1, by omega⟩ e⟩
          · rintro ⟨h1, h2⟩; exact ⟨h1, by omega⟩
        simp only [this]
    · show (if x = a ∧ y = i then true else (if x = a ∧ y < i then viaP k P x y else P x y)) = _
      by_cases e : x = a ∧ y = i
      · obtain ⟨rfl, rfl⟩ := e; simp [viaP, h]
      · have : (x = a ∧ y < i + 1) ↔ (x = a ∧ y < i) := by
          constructor
          · rintro ⟨h1, h2⟩; exact ⟨h1, by rcases Nat.lt_or_ge y i with h | h; exact h; exact absurd ⟨h1, by omega⟩ e⟩
          · rintro ⟨h1, h2⟩; exact ⟨h1, by omega⟩
        rw [if_neg e]
        simp only [this]
theorem iter_cells (k N : Nat) (P : Nat → Nat → Bool) (hk : k < N) : ∀ j, iter (fun a P => iter (stepCell k a) N P) j P = fun x y => if x < j ∧ y < N then viaP k P x y else P x y
  | 0 => by funext x y; simp [iter]
  | j + 1 => by
    simp only [iter]
    rw [iter_cells k N P hk j, iter_cell]
    funext x y
    by_cases e : x = j ∧ y < N
    · obtain ⟨rfl, hy⟩ := e
      rw [if_pos ⟨rfl, hy⟩, if_pos ⟨by omega, hy⟩]
      simp only [viaP]
      have h1 : (if x < x ∧ y < N then P x y || (P x k && P k y) else P x y) = P x y := by simp
      have h2 : (if x < x ∧ k < N then P x k || (P x k && P k k) else P x k) = P x k := by simp
      have h3 : (if k < x ∧ y < N then P k y || (P k k && P k y) else P k y) = P k y := by split <;> simp
      rw [h1, h2, h3]
    · rw [if_neg e]
      have : (x < j + 1 ∧ y < N) ↔ (x < j ∧ y < N) := by
        constructor
        · rintro ⟨h1, h2⟩; exact ⟨by rcases Nat.lt_or_ge x j with h | h; exact h; exact absurd ⟨by omega, h2⟩ e, h2⟩
        · rintro ⟨h1, h2⟩; exact ⟨by omega, h2⟩
      simp only [this]
def sameP (N : Nat) (P Q : Nat → Nat → Bool) : Prop := ∀ a, a < N → ∀ b, b < N → P a b = Q a b
theorem closR (N : Nat) (P : Nat → Nat → Bool) : ∀ k, k ≤ N → sameP N (iter (roundR N) k P) (iter viaP k P)
  | 0, _ => fun a _ b _ => rfl
  | k + 1, h => fun a ha b hb => by
    have ih := closR N P k (by omega)
    simp only [iter, roundR, iter_row, viaP]
    rw [if_pos ha, ih a ha b hb, ih a ha k (by omega), ih k (by omega) b hb]
theorem closC (N : Nat) (P : Nat → Nat → Bool) : ∀ k, k ≤ N → sameP N (iter (roundC N) k P) (iter viaP k P)
  | 0, _ => fun a _ b _ => rfl
  | k + 1, h => fun a ha b hb => by
    have ih := closC N P k (by omega)
    simp only [iter, roundC]
    rw [iter_cells k N _ (by omega)]
    simp only [viaP]
    rw [if_pos ⟨ha, hb⟩, ih a ha b hb, ih a ha k (by omega), ih k (by omega) b hb]

theorem bitsP_has {N k : Nat} {p : Nat → Bool} (hk : k < N) : hasN (bitsP N p) (k : Int) = p k := by
  unfold hasN
  rw [Int.toNat_natCast, bitsP_bit]; simp [hk]
theorem stepRow_sets {N k a : Nat} {P : Nat → Nat → Bool} (h : P a k = true) : (setsP N P).set a (bitsP N (P a) ||| bitsP N (P k)) = setsP N (stepRow k a P) := by
  rw [setsP_set bitsP_or]
  simp only [stepRow, h]

theorem implClosure_h (n : Int) (rows : List (List Int)) :
    HSpec env.P 45 [relLV n rows] [] (relHS (rsN (relOk n rows) rows) 0 ((relRows (rsN (relOk n rows) rows) (closP rows.length (relP rows))).map rowOw).length) [.tree 29 1 ((relRows (rsN (relOk n rows) rows) (closP rows.length (relP rows))).map rowOw)] := by
  refine HSpec_of_code (E := env.x [110, 111] 0) env_ok.x (fn := Try.f45) Try.func45 rfl Try.call45 _ _ _ _ ?_
  ((repeat ((conv => whnf); first | refine brT ?_ | refine brF ?_)); conv => whnf)
  refine ⟨_, isRelation_impl n rows, ?_⟩
  ((repeat ((conv => whnf); first | refine brT ?_ | refine brF ?_)); conv => whnf)
  (refine ⟨fun h => ?_, fun h => ?_⟩ <;> rw [h])
  · rw [notB_t] at h
    rw [h]
    ((repeat ((conv => whnf); first | refine brT ?_ | refine brF ?_)); conv => whnf)
    exact ⟨[relHS 0 0 0], rfl, rfl, .nl [.tmp 0 [1] true 29 1] [.old 2] ⟨⟨rfl, rfl, trivial⟩, ⟨rfl, rfl, trivial⟩, rfl⟩⟩
  rw [notB_f] at h
  rw [h, show rsN true rows = rows.length from rfl]
  have hr := relIn_of h
  have hN := hr.size
  ((repeat ((conv => whnf); first | refine brT ?_ | refine brF ?_)); conv => whnf)
  refine ⟨[], _, _, _, _, setsOf_P n rows hr, rfl, rfl, rfl, trivial, ?_⟩
  ((repeat ((conv => whnf); first | refine brT ?_ | refine brF ?_)); conv => whnf)
  generalize relP rows = P
  generalize rows.length = N at hN
  refine ⟨rfl, fun _ => ?_⟩
  rw [List.length_map, setsP_len]
  ((repeat ((conv => whnf); first | refine brT ?_ | refine brF ?_)); conv => whnf)
  refine loop_rule (α := Nat) (fun k => [(14, .int .i64 (k : Int))]) (fun k => [.box (relLV n rows), .box (.st [.int .i64 0, .nil]), .arr 100 1 ((setsP N (iter (roundR N) k P)).map uLV)]) (fun k => N - k) (fun k => k ≤ N) 0 (Nat.zero_le _) ?_ ?_
  · refine ⟨?_, ⟨rfl, rfl, rfl, trivial⟩, rfl, rfl⟩
    ((repeat ((conv => whnf); refine ⟨rfl, ?_⟩)); trivial)
  intro k hk
  ((repeat ((conv => whnf); first | refine brT ?_ | refine brF ?_)); conv => whnf)
  (refine ⟨fun h1 => ?_, fun h1 => ?_⟩ <;> rw [h1])
  · have hlt : k < N := by rw [ltI_t] at h1; simp [setsP_len] at h1; omega
    have e1 := step_i (n := N) hlt (by unfold Go.maxLen; omega)
    have en : iter (roundR N) (k + 1) P = iter (stepRow k) N (iter (roundR N) k P) := rfl
    generalize iter (roundR N) k P = R at en
    ((repeat ((conv => whnf); first | refine brT ?_ | refine brF ?_)); conv => whnf)
    refine ⟨by simp [setsP_len], fun _ => ?_⟩
    ((repeat ((conv => whnf); first | refine brT ?_ | refine brF ?_)); conv => whnf)
    refine loop_rule (α := Nat) (fun i => [(19, .int .i64 (i : Int))]) (fun i => [.box (relLV n rows), .box (.st [.int .i64 0, .nil]), .arr 100 1 ((setsP N (iter (stepRow k) i R)).map uLV)]) (fun i => N - i) (fun i => i ≤ N) 0 (Nat.zero_le _) ?_ ?_
    · refine ⟨?_, ⟨rfl, rfl, rfl, trivial⟩, rfl, rfl⟩
      ((repeat ((conv => whnf); refine ⟨rfl, ?_⟩)); trivial)
    intro i hi
    generalize hKK : kk _ = KK
    ((repeat ((conv => whnf); first | refine brT ?_ | refine brF ?_)); conv => whnf)
    (refine ⟨fun h2 => ?_, fun h2 => ?_⟩ <;> rw [h2])
    · have hil : i < N := by rw [ltI_t] at h2; simp [setsP_len] at h2; omega
      have e2 := step_i (n := N) hil (by unfold Go.maxLen; omega)
      have es : iter (stepRow k) (i + 1) R = stepRow k i (iter (stepRow k) i R) := rfl
      generalize iter (stepRow k) i R = Q at es
      have g1 : ((setsP N Q).map uLV)[i]? = some (uLV (bitsP N (Q i))) := by rw [List.getElem?_map, setsP_get hil]; rfl
      have g2 : ((setsP N Q).map uLV)[k]? = some (uLV (bitsP N (Q k))) := by rw [List.getElem?_map, setsP_get hlt]; rfl
      ((repeat ((conv => whnf); first | refine brT ?_ | refine brF ?_)); conv => whnf)
      refine ⟨by simp [setsP_len], rfl, i, rfl, by simpa [setsP_len] using hil, ?_⟩
      ((repeat ((conv => whnf); first | refine brT ?_ | refine brF ?_)); conv => whnf)
      refine ⟨by simp [setsP_len], by simp, _, by simp only [getP]; rw [g1], rfl, ?_⟩
      ((repeat ((conv => whnf); first | refine brT ?_ | refine brF ?_)); conv => whnf)
      refine ⟨_, has_spec _ (k : Int) (bitsP_64 _ (by omega)) (by omega) (by omega), ?_⟩
      ((repeat ((conv => whnf); first | refine brT ?_ | refine brF ?_)); conv => whnf)
      rw [bitsP_has hlt]
      cases hq : Q i k
      · ((repeat ((conv => whnf); first | refine brT ?_ | refine brF ?_)); conv => whnf)
        refine round_end (i + 1) hil (by omega) ⟨?_, ⟨rfl, rfl, congrArg (fun P => Blk.arr 100 1 ((setsP N P).map uLV)) (by rw [es]; simp only [stepRow, hq]), trivial⟩, rfl, rfl⟩
        ((repeat ((conv => whnf); first | refine ⟨e2, ?_⟩ | refine ⟨rfl, ?_⟩)); trivial)
      · ((repeat ((conv => whnf); first | refine brT ?_ | refine brF ?_)); conv => whnf)
        refine ⟨true, by kernel_rfl, ?_⟩
        ((repeat ((conv => whnf); first | refine brT ?_ | refine brF ?_)); conv => whnf)
        refine ⟨by simp [setsP_len], rfl, i, rfl, by simpa [setsP_len] using hil, ?_⟩
        ((repeat ((conv => whnf); first | refine brT ?_ | refine brF ?_)); conv => whnf)
        refine ⟨by simp [setsP_len], by simp, _, by simp only [getP]; rw [g1], rfl, ?_⟩
        ((repeat ((conv => whnf); first | refine brT ?_ | refine brF ?_)); conv => whnf)
        refine ⟨by simp [setsP_len], rfl, k, rfl, by simpa [setsP_len] using hlt, ?_⟩
        ((repeat ((conv => whnf); first | refine brT ?_ | refine brF ?_)); conv => whnf)
        refine ⟨by simp [setsP_len], by simp, _, by simp only [getP]; rw [g2], rfl, ?_⟩
        ((repeat ((conv => whnf); first | refine brT ?_ | refine brF ?_)); conv => whnf)
        refine ⟨by simp [setsP_len], rfl, i, rfl, by simpa [setsP_len] using hil, ?_⟩
        ((repeat ((conv => whnf); first | refine brT ?_ | refine brF ?_)); conv => whnf)
        have e3 : LV.int .u64 (Go.Lg.orI .u64 ((bitsP N (Q i) : Nat) : Int) ((bitsP N (Q k) : Nat) : Int)) = uLV (bitsP N (Q i) ||| bitsP N (Q k)) := by
          rw [orI_nat (bitsP_64 _ (by omega)) (bitsP_64 _ (by omega))]; rfl
        have e4 : ((setsP N Q).map uLV).set i (uLV (bitsP N (Q i) ||| bitsP N (Q k))) = (setsP N (stepRow k i Q)).map uLV := by rw [← stepRow_sets hq, List.map_set]
        refine ⟨by simp [setsP_len], i, [], uLV (bitsP N (Q i)), rfl, by simp only [getP]; rw [g1], rfl, rfl, rfl, (setsP N (stepRow k i Q)).map uLV, by rw [g1]; show List.set _ _ (LV.int _ _) = _; rw [e3]; exact e4, ?_⟩
        ((repeat ((conv => whnf); first | refine brT ?_ | refine brF ?_)); conv => whnf)
        refine round_end (i + 1) hil (by omega) ⟨?_, ⟨rfl, rfl, congrArg (fun P => Blk.arr 100 1 ((setsP N P).map uLV)) es.symm, trivial⟩, rfl, rfl⟩
        ((repeat ((conv => whnf); first | refine ⟨e2, ?_⟩ | refine ⟨rfl, ?_⟩)); trivial)
    · have hil : i = N := by rw [ltI_f] at h2; simp [setsP_len] at h2; omega
      subst hil
      subst hKK
      ((repeat ((conv => whnf); first | refine brT ?_ | refine brF ?_)); conv => whnf)
      refine round_end (k + 1) hlt (by omega) ⟨?_, ⟨rfl, rfl, congrArg (fun P => Blk.arr 100 1 ((setsP i P).map uLV)) en.symm, trivial⟩, rfl, rfl⟩
      ((repeat ((conv => whnf); first | refine ⟨e1, ?_⟩ | refine ⟨rfl, ?_⟩)); trivial)
  · have h3 : k = N := by rw [ltI_f] at h1; simp [setsP_len] at h1; omega
    subst h3
    ((repeat ((conv => whnf); first | refine brT ?_ | refine brF ?_)); conv => whnf)
    have hR := relationOfSets_P k (iter (roundR k) k P) hN
    rw [relRows_ext (closR k P k (Nat.le_refl _))] at hR
    refine ⟨[], _, _, _, _, hR, rfl, ?_⟩
    ((repeat ((conv => whnf); first | refine brT ?_ | refine brF ?_)); conv => whnf)
    refine ⟨by simp [setsP_len], ?_⟩
    ((repeat ((conv => whnf); first | refine brT ?_ | refine brF ?_)); conv => whnf)
    refine ⟨rfl, rfl, ⟨rfl, flatTs_rows _, trivial⟩, ?_⟩
    ((repeat ((conv => whnf); first | refine brT ?_ | refine brF ?_)); conv => whnf)
    refine ⟨[relHS k 0 ((relRows k (closP k P)).map rowOw).length], rfl, rfl, .inr ⟨[.old 3], ⟨rfl, rfl, trivial⟩, ⟨rfl, rfl, trivial⟩, rfl⟩⟩
end Go.Proofs.Ytfdjeflnjciloaa

namespace Go.Proofs.Ytfdjeflnjciloaa
open Go.Lg
set_option maxHeartbeats 1600000
set_option maxRecDepth 10000
set_option linter.unusedVariables false
set_option linter.unusedSimpArgs false

/-! ### Composition -/
/-- What is reached from a set over the rows of Q. -/
def onP (N : Nat) (p : Nat → Bool) (Q : Nat → Nat → Bool) : Nat → Bool := fun c => decide (∃ b, b < N ∧ p b = true ∧ Q b c = true)
def compP (N : Nat) (P Q : Nat → Nat → Bool) : Nat → Nat → Bool := fun a c => onP N (P a) Q c
def inTake (r : List Int) (i : Nat) : Nat → Bool := fun b => decide ((b : Int) ∈ r.take i)
theorem onP_succ {N : Nat} {r : List Int} {i b : Nat} {Q : Nat → Nat → Bool} (hi : i < r.length) (hb : r[i] = (b : Int)) (hbN : b < N) : (fun c => onP N (inTake r i) Q c || Q b c) = onP N (inTake r (i + 1)) Q := by
  funext c
  unfold onP inTake
  rw [List.take_succ_eq_append_getElem hi]
  rw [Bool.eq_iff_iff]
  simp only [Bool.or_eq_true, decide_eq_true_eq, List.mem_append, List.mem_singleton, hb]
  constructor
  · rintro (⟨b', h1, h2, h3⟩ | h)
    · exact ⟨b', h1, .inl h2, h3⟩
    · exact ⟨b, hbN, .inr rfl, h⟩
  · rintro ⟨b', h1, h2 | h2, h3⟩
    · exact .inl ⟨b', h1, h2, h3⟩
    · have : b' = b := by omega
      subst this; exact .inr h3
theorem onP_zero {N : Nat} {r : List Int} {Q : Nat → Nat → Bool} : onP N (inTake r 0) Q = fun _ => false := by funext c; simp [onP, inTake]

theorem compose1_spec (N : Nat) (Q : Nat → Nat → Bool) (hN : N ≤ 40) (row : List Int) (hr : ∀ b ∈ row, 0 ≤ b ∧ b < N) (hm : row.length ≤ Go.maxLen) :
    FSpec env.P 113 [rowSl row, .ref (.sl ((setsP N Q).map uLV))] (uLV (bitsP N (onP N (inTake row row.length) Q))) := by
  refine FSpec_of_code env_ok (fn := Try.f113) Try.func113 rfl Try.call113 _ _ ?_
  ((repeat ((conv => whnf); first | refine brT ?_ | refine brF ?_)); conv => whnf)
  intro _
  rw [List.length_map]
  ((repeat ((conv => whnf); first | refine brT ?_ | refine brF ?_)); conv => whnf)
  refine loop_rule (α := Nat) (fun k => [(9, .int .i64 (k : Int)), (4, uLV (bitsP N (onP N (inTake row k) Q)))]) (fun _ => []) (fun k => row.length - k) (fun k => k ≤ row.length) 0 (Nat.zero_le _) ?_ ?_
  · refine ⟨?_, trivial, rfl, rfl⟩
    have e0 : LV.int .u64 0 = uLV (bitsP N (onP N (inTake row 0) Q)) := by rw [onP_zero]; rw [show bitsP N (fun _ => false) = 0 from (bits_ext fun i => by simp).symm]; rfl
    ((repeat ((conv => whnf); first | refine ⟨e0, ?_⟩ | refine ⟨rfl, ?_⟩)); trivial)
  intro k hk
  ((repeat ((conv => whnf); first | refine brT ?_ | refine brF ?_)); conv => whnf)
  (refine ⟨fun h1 => ?_, fun h1 => ?_⟩ <;> rw [h1])
  · have hlt : k < row.length := by rw [ltI_t] at h1; omega
    have e := step_i hlt hm
    have hb := hr row[k] (List.getElem_mem hlt)
    obtain ⟨b, hb'⟩ : ∃ b : Nat, row[k] = (b : Int) := ⟨row[k].toNat, by omega⟩
    have hbN : b < N := by omega
    have e2 : LV.int .u64 (Go.Lg.orI .u64 ((bitsP N (onP N (inTake row k) Q) : Nat) : Int) ((bitsP N (Q b) : Nat) : Int)) = uLV (bitsP N (onP N (inTake row (k + 1)) Q)) := by
      rw [orI_nat (bitsP_64 _ (by omega)) (bitsP_64 _ (by omega)), bitsP_or, onP_succ hlt hb' hbN]; rfl
    ((repeat ((conv => whnf); first | refine brT ?_ | refine brF ?_)); conv => whnf)
    refine ⟨k, intLV row[k], rfl, by simp [hlt], rfl, ?_⟩
    rw [hb']
    ((repeat ((conv => whnf); first | refine brT ?_ | refine brF ?_)); conv => whnf)
    refine ⟨b, uLV (bitsP N (Q b)), rfl, by rw [List.getElem?_map, setsP_get hbN]; rfl, rfl, ?_⟩
    ((repeat ((conv => whnf); first | refine brT ?_ | refine brF ?_)); conv => whnf)
    refine round_end (k + 1) hlt (by omega) ⟨?_, trivial, rfl, rfl⟩
    repeat ((conv => whnf); first | refine ⟨e, ?_⟩ | refine ⟨e2, ?_⟩ | refine ⟨rfl, ?_⟩)
    trivial
  · have h3 : k = row.length := by rw [ltI_f] at h1; omega
    subst h3
    ((repeat ((conv => whnf); first | refine brT ?_ | refine brF ?_)); conv => whnf)
    exact ⟨rfl, rfl, List.nodup_nil⟩

/-- mapEach of a closure that captured one place -/
theorem mapRows_f (F : Nat) (S : LV) (rows : List (List Int)) (g : List Int → Nat) (hF : ∀ r ∈ rows, FSpec env.P F [rowSl r, .ref S] (uLV (g r))) (hb : 8 * rows.length ≤ 281474976710656) :
    FSpec env.P 112 [.sl (rows.map rowSl), .clos F [.ref S]] (.own 100 1 (rows.map fun r => uLV (g r))) := by
  refine FSpec_of_code env_ok (fn := Try.f112) Try.func112 rfl Try.call112 _ _ ?_
  ((repeat ((conv => whnf); first | refine brT ?_ | refine brF ?_)); conv => whnf)
  intro hp
  have hp' : rows.length ≤ Go.maxLen := by simpa using hp
  ((repeat ((conv => whnf); first | refine brT ?_ | refine brF ?_)); conv => whnf)
  refine ⟨rows.length, by simp, by simp, hb, hp', rfl, by decide, ?_⟩
  ((repeat ((conv => whnf); first | refine brT ?_ | refine brF ?_)); conv => whnf)
  intro _
  ((repeat ((conv => whnf); first | refine brT ?_ | refine brF ?_)); conv => whnf)
  refine loop_rule (α := Nat) (fun k => [(13, .int .i64 (k : Int))]) (fun k => [.arr 100 1 (fillLV (fun r => uLV (g r)) (uLV 0) rows k)]) (fun k => rows.length - k) (fun k => k ≤ rows.length) 0 (Nat.zero_le _) ?_ ?_
  · refine ⟨?_, ⟨by simp [fillLV, uLV], trivial⟩, rfl, rfl⟩
    ((repeat ((conv => whnf); refine ⟨rfl, ?_⟩)); trivial)
  rintro k hk
  ((repeat ((conv => whnf); first | refine brT ?_ | refine brF ?_)); conv => whnf)
  (refine ⟨fun h1 => ?_, fun h1 => ?_⟩ <;> rw [h1])
  · have hlt : k < rows.length := by rw [ltI_t] at h1; simp at h1; omega
    ((repeat ((conv => whnf); first | refine brT ?_ | refine brF ?_)); conv => whnf)
    refine ⟨k, rowSl rows[k], rfl, by simp [hlt], rfl, ?_⟩
    ((repeat ((conv => whnf); first | refine brT ?_ | refine brF ?_)); conv => whnf)
    refine ⟨_, hF rows[k] (List.getElem_mem hlt), ?_⟩
    ((repeat ((conv => whnf); first | refine brT ?_ | refine brF ?_)); conv => whnf)
    refine ⟨(fill_len hk).symm, rfl, k, rfl, by rw [fill_len hk]; exact hlt, ?_⟩
    ((repeat ((conv => whnf); first | refine brT ?_ | refine brF ?_)); conv => whnf)
    refine ⟨(fill_len hk).symm, k, [], uLV 0, rfl, by simp [getP, fill_get hlt], rfl, rfl, rfl, fillLV (fun r => uLV (g r)) (uLV 0) rows (k + 1), by rw [fill_get hlt]; exact fill_set hlt, ?_⟩
    ((repeat ((conv => whnf); first | refine brT ?_ | refine brF ?_)); conv => whnf)
    refine round_end (k + 1) hlt (by omega) ⟨?_, ⟨rfl, trivial⟩, rfl, rfl⟩
    have e := step_i hlt hp'
    ((repeat ((conv => whnf); first | refine ⟨e, ?_⟩ | refine ⟨rfl, ?_⟩)); trivial)
  · have h4 : k = rows.length := by rw [ltI_f] at h1; simp at h1; omega
    subst h4
    ((repeat ((conv => whnf); first | refine brT ?_ | refine brF ?_)); conv => whnf)
    exact ⟨(fill_len (Nat.le_refl _)).symm, rfl, rfl, fill_all, by simp⟩

theorem comp_rows {n : Int} {rows : List (List Int)} (hr : RelIn n rows) (Q : Nat → Nat → Bool) : (rows.map fun r => bitsP rows.length (onP rows.length (inTake r r.length) Q)) = setsP rows.length (compP rows.length (relP rows) Q) := by
  apply List.ext_getElem
  · simp [setsP]
  · intro a h1 h2
    have ha : a < rows.length := by simpa using h1
    simp only [List.getElem_map, setsP, List.getElem_range]
    congr 1
    funext c
    unfold compP onP inTake relP
    have : rows.getD a [] = rows[a] := by simp [List.getD_eq_getElem?_getD, ha]
    rw [this, List.take_length]

theorem implCompose_h (n : Int) (rows : List (List Int)) (m : Int) (rows' : List (List Int)) :
    HSpec env.P 37 [relLV n rows, relLV m rows'] [] (relHS (rsN (alike n rows m rows') rows) 0 ((relRows (rsN (alike n rows m rows') rows) (compP rows.length (relP rows) (relP rows'))).map rowOw).length)
      [.tree 29 1 ((relRows (rsN (alike n rows m rows') rows) (compP rows.length (relP rows) (relP rows'))).map rowOw)] := by
  refine HSpec_of_code (E := env.x [110, 111] 0) env_ok.x (fn := Try.f37) Try.func37 rfl Try.call37 _ _ _ _ ?_
  ((repeat ((conv => whnf); first | refine brT ?_ | refine brF ?_)); conv => whnf)
  refine ⟨_, areAlike_spec n rows m rows', ?_⟩
  ((repeat ((conv => whnf); first | refine brT ?_ | refine brF ?_)); conv => whnf)
  (refine ⟨fun h => ?_, fun h => ?_⟩ <;> rw [h])
  · rw [notB_t] at h
    rw [h]
    ((repeat ((conv => whnf); first | refine brT ?_ | refine brF ?_)); conv => whnf)
    exact ⟨[relHS 0 0 0], rfl, rfl, .nl [.tmp 0 [1] true 29 1] [.old 3] ⟨⟨rfl, rfl, trivial⟩, ⟨rfl, rfl, trivial⟩, rfl⟩⟩
  rw [notB_f] at h
  rw [h, show rsN true rows = rows.length from rfl]
  obtain ⟨hr, hs, rfl, hl⟩ := alike_in h
  have hN := hr.size
  have hq := setsOf_P n rows' hs
  rw [hl] at hq
  ((repeat ((conv => whnf); first | refine brT ?_ | refine brF ?_)); conv => whnf)
  refine ⟨[], _, _, _, _, hq, rfl, rfl, rfl, trivial, ?_⟩
  ((repeat ((conv => whnf); first | refine brT ?_ | refine brF ?_)); conv => whnf)
  refine ⟨rfl, ?_⟩
  ((repeat ((conv => whnf); first | refine brT ?_ | refine brF ?_)); conv => whnf)
  have hf := mapRows_f 113 (.sl ((setsP rows.length (relP rows')).map uLV)) rows (fun r => bitsP rows.length (onP rows.length (inTake r r.length) (relP rows')))
    (fun r hx => compose1_spec rows.length (relP rows') hN r (fun b hb => by have := hr.mem hx hb; have := hr.len; omega) (by have := hr.rlen hx; unfold Go.maxLen; omega)) (by omega)
  have e : (rows.map fun r => uLV (bitsP rows.length (onP rows.length (inTake r r.length) (relP rows')))) = (setsP rows.length (compP rows.length (relP rows) (relP rows'))).map uLV := by
    rw [← comp_rows hr, List.map_map]; rfl
  rw [e] at hf
  refine ⟨_, hf, ?_⟩
  have hflat : flatT (LV.own 100 1 ((setsP rows.length (compP rows.length (relP rows) (relP rows'))).map uLV)) = true := by
    simp only [flatT, flatB]
    generalize setsP rows.length (compP rows.length (relP rows) (relP rows')) = l
    induction l with
    | nil => rfl
    | cons x xs ih => simp only [List.map_cons, flatsB, ih]; rfl
  rw [hflat]
  ((repeat ((conv => whnf); first | refine brT ?_ | refine brF ?_)); conv => whnf)
  refine ⟨[], _, _, _, _, relationOfSets_P rows.length (compP rows.length (relP rows) (relP rows')) hN, rfl, rfl, rfl, trivial, ?_⟩
  ((repeat ((conv => whnf); first | refine brT ?_ | refine brF ?_)); conv => whnf)
  refine ⟨[relHS rows.length 0 ((relRows rows.length (compP rows.length (relP rows) (relP rows'))).map rowOw).length], rfl, rfl, .inr ⟨[.old 5], ⟨rfl, rfl, trivial⟩, ⟨rfl, rfl, trivial⟩, rfl⟩⟩
end Go.Proofs.Ytfdjeflnjciloaa

namespace Go.Proofs.Ytfdjeflnjciloaa
open Go.Lg
set_option maxHeartbeats 1600000
set_option maxRecDepth 10000
set_option linter.unusedVariables false
set_option linter.unusedSimpArgs false

theorem lines_get {N a : Nat} {P : Nat → Nat → Bool} (h : a < N) : ((gridP N P).map lineOw)[a]? = some (lineOw (lineP N P a)) := by rw [List.getElem?_map, gridP_get h]; rfl
theorem linesS_get {N a : Nat} {P : Nat → Nat → Bool} (h : a < N) : ((gridP N P).map lineSl)[a]? = some (lineSl (lineP N P a)) := by rw [List.getElem?_map, gridP_get h]; rfl
theorem cell_get {N a b : Nat} {P : Nat → Nat → Bool} (h : b < N) : ((lineP N P a).map bLV)[b]? = some (.bool (P a b)) := by rw [List.getElem?_map, lineP_get h]; rfl
theorem lines_len {N : Nat} {P : Nat → Nat → Bool} : ((gridP N P).map lineOw).length = N := by rw [List.length_map, gridP_len]
theorem linesS_len {N : Nat} {P : Nat → Nat → Bool} : ((gridP N P).map lineSl).length = N := by rw [List.length_map, gridP_len]
theorem cells_len {N a : Nat} {P : Nat → Nat → Bool} : ((lineP N P a).map bLV).length = N := by rw [List.length_map, lineP_len]
theorem lines_put {N a b : Nat} {P : Nat → Nat → Bool} {v : Bool} : ((gridP N P).map lineOw).set a (lineOw (lineP N (putP P a b v) a)) = (gridP N (putP P a b v)).map lineOw := by rw [← gridP_put, List.map_set]
theorem lines_same {N a : Nat} {P : Nat → Nat → Bool} : ((gridP N P).map lineOw).set a (lineOw (lineP N P a)) = (gridP N P).map lineOw := by
  apply List.ext_getElem?
  intro i
  rw [List.getElem?_set]
  split
  · rename_i e; subst e
    split
    · rename_i h; rw [lines_len] at h; rw [lines_get h]
    · rename_i h; rw [List.getElem?_eq_none (by omega)]
  · rfl
theorem cells_put {N a b : Nat} {P : Nat → Nat → Bool} {v : Bool} : ((lineP N P a).map bLV).set b (.bool v) = (lineP N (putP P a b v) a).map bLV := by
  rw [← lineP_put, List.map_set]; rfl

theorem l2Blank_P (N : Nat) (hN : N ≤ 40) : HSpec env.P 155 [.int .i64 (N : Int)] [] (.hs 0 N) [.tree 139 1 ((gridP N fun _ _ => false).map lineOw)] := by
  have h := l2Blank_h N hN
  rw [blank_gridP, lines_len] at h
  exact h
theorem l2Grid_P (n : Int) (rows : List (List Int)) (hr : RelIn n rows) : HSpec env.P 119 [relLV n rows] [] (.hs 0 rows.length) [.tree 139 1 ((gridP rows.length (relP rows)).map lineOw)] := by
  obtain rfl : n = (rows.length : Int) := by have := hr.len; omega
  have h := l2Grid_h rows hr
  rw [gridL_P, lines_len] at h
  exact h
theorem l2Of_P (N : Nat) (P : Nat → Nat → Bool) (hN : N ≤ 40) : HSpec env.P 154 [.sl ((gridP N P).map lineSl)] [] (relHS N 0 ((relRows N P).map rowOw).length) [.tree 29 1 ((relRows N P).map rowOw)] := by
  have h := l2Of_h (gridP N P) (by rw [gridP_len]; exact hN) (fun l hl => by
    unfold gridP at hl
    obtain ⟨a, _, rfl⟩ := List.mem_map.1 hl
    simp; exact hN)
  rw [gridP_len, gridP_rows] at h
  exact h

theorem specIdentity_h (n : Int) : HSpec env.P 77 [.int .i64 n] [] (relHS (empN n : Nat) 0 ((relRows (empN n) (idP (empN n))).map rowOw).length) [.tree 29 1 ((relRows (empN n) (idP (empN n))).map rowOw)] := by
  refine HSpec_of_code (E := env.x [155, 154] 0) env_ok.x (fn := Try.f77) Try.func77 rfl Try.call77 _ _ _ _ ?_
  ((repeat ((conv => whnf); first | refine brT ?_ | refine brF ?_)); conv => whnf)
  refine ⟨_, l1In_spec n 0 40, ?_⟩
  ((repeat ((conv => whnf); first | refine brT ?_ | refine brF ?_)); conv => whnf)
  (refine ⟨fun h => ?_, fun h => ?_⟩ <;> rw [h])
  · ((repeat ((conv => whnf); first | refine brT ?_ | refine brF ?_)); conv => whnf)
    rw [empN_no (isSize_no h)]
    exact ⟨[relHS 0 0 0], rfl, rfl, .nl [.tmp 0 [1] true 29 1] [.old 1] ⟨⟨rfl, rfl, trivial⟩, ⟨rfl, rfl, trivial⟩, rfl⟩⟩
  obtain ⟨h0, h1⟩ := isSize_ok h
  have hn := empN_ok h0 h1
  have hk := empN_le n
  generalize empN n = N at hn hk
  subst hn
  ((repeat ((conv => whnf); first | refine brT ?_ | refine brF ?_)); conv => whnf)
  refine ⟨[], _, _, _, _, l2Blank_P N hk, rfl, rfl, rfl, trivial, ?_⟩
  rw [← idP_zero]
  ((repeat ((conv => whnf); first | refine brT ?_ | refine brF ?_)); conv => whnf)
  refine ⟨lines_len.symm, fun _ => ?_⟩
  ((repeat ((conv => whnf); first | refine brT ?_ | refine brF ?_)); conv => whnf)
  refine loop_ruleR (α := Nat) [.old 0, .old 1] (fun k => [(19, .undef), (13, .int .i64 (k : Int))]) (fun k => [.box (.st [.int .i64 0, .nil]), .tree 139 1 ((gridP N (idP k)).map lineOw)]) (fun k => N - k) (fun k => k ≤ N) 0 (Nat.zero_le _) ?_ ?_
  · refine ⟨?_, ⟨rfl, rfl, rfl, rfl, trivial⟩, rfl⟩
    ((repeat ((conv => whnf); refine ⟨rfl, rfl, ?_⟩)); trivial)
  intro k hk'
  ((repeat ((conv => whnf); first | refine brT ?_ | refine brF ?_)); conv => whnf)
  (refine ⟨fun g1 => ?_, fun g1 => ?_⟩ <;> rw [g1])
  · have hlt : k < N := by rw [ltI_t, lines_len] at g1; omega
    have e := step_i (n := N) hlt (by unfold Go.maxLen; omega)
    ((repeat ((conv => whnf); first | refine brT ?_ | refine brF ?_)); conv => whnf)
    refine ⟨lines_len.symm, rfl, k, rfl, by rw [lines_len]; exact hlt, ?_⟩
    ((repeat ((conv => whnf); first | refine brT ?_ | refine brF ?_)); conv => whnf)
    refine ⟨lines_len.symm, lineOw (lineP N (idP k) k), lineOw (lineP N (idP k) k), lines_get hlt, rfl, ?_⟩
    ((repeat ((conv => whnf); first | refine brT ?_ | refine brF ?_)); conv => whnf)
    refine ⟨rfl, rfl, k, rfl, by rw [cells_len]; exact hlt, ?_⟩
    ((repeat ((conv => whnf); first | refine brT ?_ | refine brF ?_)); conv => whnf)
    refine ⟨rfl, k, [], .bool (idP k k k), rfl, by simp only [getP]; rw [cell_get hlt], rfl, rfl, rfl, (lineP N (idP (k + 1)) k).map bLV, by rw [cell_get hlt, ← idP_put]; exact cells_put, ?_⟩
    ((repeat ((conv => whnf); first | refine brT ?_ | refine brF ?_)); conv => whnf)
    have e4 : ((gridP N (idP k)).map lineOw).set k (lineOw (lineP N (idP (k + 1)) k)) = (gridP N (idP (k + 1))).map lineOw := by rw [← idP_put]; exact lines_put
    refine round_endR [.old 0, .old 1] (k + 1) hlt (by omega) ⟨?_, ⟨by rw [cells_len, cells_len], rfl, rfl, rfl, congrArg (Blk.tree 139 1) e4, trivial⟩, rfl⟩
    ((repeat ((conv => whnf); first | refine ⟨rfl, e, ?_⟩ | refine ⟨rfl, rfl, ?_⟩)); trivial)
  · have h3 : k = N := by rw [ltI_f, lines_len] at g1; omega
    subst h3
    ((repeat ((conv => whnf); first | refine brT ?_ | refine brF ?_)); conv => whnf)
    refine ⟨[], _, _, _, _, l2Of_P k (idP k) hk, rfl, ?_⟩
    ((repeat ((conv => whnf); first | refine brT ?_ | refine brF ?_)); conv => whnf)
    refine ⟨lines_len.symm, _, dms_lines _, ?_⟩
    ((repeat ((conv => whnf); first | refine brT ?_ | refine brF ?_)); conv => whnf)
    refine ⟨rfl, rfl, ⟨rfl, flatTs_rows _, trivial⟩, ?_⟩
    ((repeat ((conv => whnf); first | refine brT ?_ | refine brF ?_)); conv => whnf)
    refine ⟨[relHS k 0 ((relRows k (idP k)).map rowOw).length], rfl, rfl, .inr ⟨[.old 2], ⟨rfl, rfl, trivial⟩, ⟨rfl, rfl, trivial⟩, rfl⟩⟩

theorem specConverse_h (n : Int) (rows : List (List Int)) :
    HSpec env.P 91 [relLV n rows] [] (relHS (rsN (relOk n rows) rows) 0 ((relRows (rsN (relOk n rows) rows) (convP rows)).map rowOw).length) [.tree 29 1 ((relRows (rsN (relOk n rows) rows) (convP rows)).map rowOw)] := by
  refine HSpec_of_code (E := env.x [155, 154] 0) env_ok.x (fn := Try.f91) Try.func91 rfl Try.call91 _ _ _ _ ?_
  ((repeat ((conv => whnf); first | refine brT ?_ | refine brF ?_)); conv => whnf)
  refine ⟨_, isRelation_spec n rows, ?_⟩
  ((repeat ((conv => whnf); first | refine brT ?_ | refine brF ?_)); conv => whnf)
  (refine ⟨fun h => ?_, fun h => ?_⟩ <;> rw [h])
  · rw [notB_t] at h
    rw [h]
    ((repeat ((conv => whnf); first | refine brT ?_ | refine brF ?_)); conv => whnf)
    exact ⟨[relHS 0 0 0], rfl, rfl, .nl [.tmp 0 [1] true 29 1] [.old 2] ⟨⟨rfl, rfl, trivial⟩, ⟨rfl, rfl, trivial⟩, rfl⟩⟩
  rw [notB_f] at h
  rw [h, show rsN true rows = rows.length from rfl]
  have hr := relIn_of h
  have hN := hr.size
  obtain rfl : n = (rows.length : Int) := by have := hr.len; omega
  ((repeat ((conv => whnf); first | refine brT ?_ | refine brF ?_)); conv => whnf)
  refine ⟨[], _, _, _, _, l2Blank_P rows.length hN, rfl, rfl, rfl, trivial, ?_⟩
  rw [← cvP_zero rows]
  ((repeat ((conv => whnf); first | refine brT ?_ | refine brF ?_)); conv => whnf)
  intro hm
  have hm' : rows.length ≤ Go.maxLen := by simpa using hm
  ((repeat ((conv => whnf); first | refine brT ?_ | refine brF ?_)); conv => whnf)
  refine loop_ruleR (α := Nat) [.old 0, .old 1, .old 2] (fun k => [(32, .undef), (18, .int .i64 (k : Int))]) (fun k => [.box (relLV rows.length rows), .box (.st [.int .i64 0, .nil]), .tree 139 1 ((gridP rows.length (cvP rows k 0)).map lineOw)]) (fun k => rows.length - k) (fun k => k ≤ rows.length) 0 (Nat.zero_le _) ?_ ?_
  · refine ⟨?_, ⟨rfl, rfl, rfl, rfl, rfl, rfl, trivial⟩, rfl⟩
    ((repeat ((conv => whnf); refine ⟨rfl, rfl, ?_⟩)); trivial)
  intro k hk
  ((repeat ((conv => whnf); first | refine brT ?_ | refine brF ?_)); conv => whnf)
  (refine ⟨fun h1 => ?_, fun h1 => ?_⟩ <;> rw [h1])
  · have hlt : k < rows.length := by rw [ltI_t] at h1; simp at h1; omega
    have e1 := step_i hlt hm'
    ((repeat ((conv => whnf); first | refine brT ?_ | refine brF ?_)); conv => whnf)
    refine ⟨k, rowSl rows[k], rfl, by simp [hlt], rfl, ?_⟩
    ((repeat ((conv => whnf); first | refine brT ?_ | refine brF ?_)); conv => whnf)
    intro hmr
    have hmr' : rows[k].length ≤ Go.maxLen := by simpa using hmr
    ((repeat ((conv => whnf); first | refine brT ?_ | refine brF ?_)); conv => whnf)
    refine loop_ruleR (α := Nat) [.old 0, .old 1, .old 2] (fun i => [(32, .undef), (25, .int .i64 (i : Int))]) (fun i => [.box (relLV rows.length rows), .box (.st [.int .i64 0, .nil]), .tree 139 1 ((gridP rows.length (cvP rows k i)).map lineOw)]) (fun i => rows[k].length - i) (fun i => i ≤ rows[k].length) 0 (Nat.zero_le _) ?_ ?_
    · refine ⟨?_, ⟨rfl, rfl, rfl, rfl, rfl, rfl, trivial⟩, rfl⟩
      ((repeat ((conv => whnf); refine ⟨rfl, rfl, ?_⟩)); trivial)
    intro i hi
    generalize hKK : kk _ = KK
    ((repeat ((conv => whnf); first | refine brT ?_ | refine brF ?_)); conv => whnf)
    (refine ⟨fun h2 => ?_, fun h2 => ?_⟩ <;> rw [h2])
    · have hil : i < rows[k].length := by rw [ltI_t] at h2; simp at h2; omega
      have e2 := step_i hil hmr'
      obtain ⟨b0, b1, _⟩ := hr.mem (List.getElem_mem hlt) (List.getElem_mem hil)
      obtain ⟨b, hb⟩ : ∃ b : Nat, rows[k][i] = (b : Int) := ⟨rows[k][i].toNat, by omega⟩
      have hbl : b < rows.length := by omega
      have ep := cvP_put hlt hil hb
      ((repeat ((conv => whnf); first | refine brT ?_ | refine brF ?_)); conv => whnf)
      refine ⟨i, intLV rows[k][i], rfl, by simp [hil], rfl, ?_⟩
      rw [hb]
      ((repeat ((conv => whnf); first | refine brT ?_ | refine brF ?_)); conv => whnf)
      refine ⟨lines_len.symm, rfl, b, rfl, by rw [lines_len]; exact hbl, ?_⟩
      ((repeat ((conv => whnf); first | refine brT ?_ | refine brF ?_)); conv => whnf)
      refine ⟨lines_len.symm, lineOw (lineP rows.length (cvP rows k i) b), lineOw (lineP rows.length (cvP rows k i) b), lines_get hbl, rfl, ?_⟩
      ((repeat ((conv => whnf); first | refine brT ?_ | refine brF ?_)); conv => whnf)
      refine ⟨rfl, rfl, k, rfl, by rw [cells_len]; exact hlt, ?_⟩
      ((repeat ((conv => whnf); first | refine brT ?_ | refine brF ?_)); conv => whnf)
      refine ⟨rfl, k, [], .bool (cvP rows k i b k), rfl, by simp only [getP]; rw [cell_get hlt], rfl, rfl, rfl, (lineP rows.length (cvP rows k (i + 1)) b).map bLV, by rw [cell_get hlt, ← ep]; exact cells_put, ?_⟩
      ((repeat ((conv => whnf); first | refine brT ?_ | refine brF ?_)); conv => whnf)
      have e4 : ((gridP rows.length (cvP rows k i)).map lineOw).set b (lineOw (lineP rows.length (cvP rows k (i + 1)) b)) = (gridP rows.length (cvP rows k (i + 1))).map lineOw := by rw [← ep]; exact lines_put
      refine round_endR [.old 0, .old 1, .old 2] (i + 1) hil (by omega) ⟨?_, ⟨by rw [cells_len, cells_len], rfl, rfl, rfl, rfl, rfl, congrArg (Blk.tree 139 1) e4, trivial⟩, rfl⟩
      ((repeat ((conv => whnf); first | refine ⟨rfl, e2, ?_⟩ | refine ⟨rfl, rfl, ?_⟩)); trivial)
    · have hil : i = rows[k].length := by rw [ltI_f] at h2; simp at h2; omega
      have e4 : (gridP rows.length (cvP rows k i)).map lineOw = (gridP rows.length (cvP rows (k + 1) 0)).map lineOw := by rw [hil, cvP_row hlt]
      subst hKK
      ((repeat ((conv => whnf); first | refine brT ?_ | refine brF ?_)); conv => whnf)
      refine round_endR [.old 0, .old 1, .old 2] (k + 1) hlt (by omega) ⟨?_, ⟨rfl, rfl, rfl, rfl, rfl, congrArg (Blk.tree 139 1) e4, trivial⟩, rfl⟩
      ((repeat ((conv => whnf); first | refine ⟨rfl, e1, ?_⟩ | refine ⟨rfl, rfl, ?_⟩)); trivial)
  · have h3 : k = rows.length := by rw [ltI_f] at h1; simp at h1; omega
    subst h3
    ((repeat ((conv => whnf); first | refine brT ?_ | refine brF ?_)); conv => whnf)
    have hR := l2Of_P rows.length (cvP rows rows.length 0) hN
    rw [cvP_all] at hR
    refine ⟨[], _, _, _, _, hR, rfl, ?_⟩
    ((repeat ((conv => whnf); first | refine brT ?_ | refine brF ?_)); conv => whnf)
    refine ⟨lines_len.symm, _, dms_lines _, ?_⟩
    ((repeat ((conv => whnf); first | refine brT ?_ | refine brF ?_)); conv => whnf)
    refine ⟨rfl, rfl, ⟨rfl, flatTs_rows _, trivial⟩, ?_⟩
    ((repeat ((conv => whnf); first | refine brT ?_ | refine brF ?_)); conv => whnf)
    refine ⟨[relHS rows.length 0 ((relRows rows.length (convP rows)).map rowOw).length], rfl, rfl, .inr ⟨[.old 3], ⟨rfl, rfl, trivial⟩, ⟨rfl, rfl, trivial⟩, rfl⟩⟩
end Go.Proofs.Ytfdjeflnjciloaa

namespace Go.Proofs.Ytfdjeflnjciloaa
open Go.Lg
set_option maxHeartbeats 1600000
set_option maxRecDepth 10000
set_option linter.unusedVariables false
set_option linter.unusedSimpArgs false

/-! ### Composition place by place -/
def cellC (P Q : Nat → Nat → Bool) (a b c : Nat) (R : Nat → Nat → Bool) : Nat → Nat → Bool := match P a b && Q b c with | true => putP R a c true | false => R
def compR (N : Nat) (P Q : Nat → Nat → Bool) : Nat → Nat → Bool := iter (fun a R => iter (fun b R => iter (cellC P Q a b) N R) N R) N (fun _ _ => false)
theorem iter_cellC (P Q R : Nat → Nat → Bool) (a b : Nat) : ∀ i, iter (cellC P Q a b) i R = fun x y => R x y || (decide (x = a ∧ y < i) && (P a b && Q b y))
  | 0 => by funext x y; simp [iter]
  | i + 1 => by
    simp only [iter]
    rw [iter_cellC P Q R a b i]
    funext x y
    unfold cellC
    cases h : (P a b && Q b i)
    · show (R x y || (decide (x = a ∧ y < i) && (P a b && Q b y))) = _
      congr 1
      by_cases e : x = a ∧ y = i
      · obtain ⟨rfl, rfl⟩ := e; simp only [h]; simp
      · have : (x = a ∧ y < i + 1) ↔ (x = a ∧ y < i) := by
          constructor
          · rintro ⟨h1, h2⟩; exact ⟨h1, by rcases Nat.lt_or_ge y i with h | h; exact h; exact absurd ⟨h1, by omega⟩ e⟩
          · rintro ⟨h1, h2⟩; exact ⟨h1, by omega⟩
        simp only [this]
    · show (if x = a ∧ y = i then true else (R x y || (decide (x = a ∧ y < i) && (P a b && Q b y)))) = _
      by_cases e : x = a ∧ y = i
      · obtain ⟨rfl, rfl⟩ := e; rw [if_pos ⟨rfl, rfl⟩, h]; simp
      · rw [if_neg e]
        have : (x = a ∧ y < i + 1) ↔ (x = a ∧ y < i) := by
          constructor
          · rintro ⟨h1, h2⟩; exact ⟨h1, by rcases Nat.lt_or_ge y i with h | h; exact h; exact absurd ⟨h1, by omega⟩ e⟩
          · rintro ⟨h1, h2⟩; exact ⟨h1, by omega⟩
        simp only [this]
theorem iter_cellB (N : Nat) (P Q R : Nat → Nat → Bool) (a : Nat) : ∀ j, iter (fun b R => iter (cellC P Q a b) N R) j R = fun x y => R x y || (decide (x = a ∧ y < N) && decide (∃ b, b < j ∧ P a b = true ∧ Q b y = true))
  | 0 => by funext x y; simp [iter]
  | j + 1 => by
    simp only [iter]
    rw [iter_cellB N P Q R a j, iter_cellC]
    funext x y
    rw [Bool.or_assoc]
    congr 1
    rw [Bool.eq_iff_iff]
    simp only [Bool.or_eq_true, Bool.and_eq_true, decide_eq_true_eq]
    constructor
    · rintro (⟨h1, b, h2, h3⟩ | ⟨h1, h2⟩)
      · exact ⟨h1, b, by omega, h3⟩
      · exact ⟨h1, j, by omega, h2⟩
    · rintro ⟨h1, b, h2, h3⟩
      rcases Nat.lt_or_ge b j with h | h
      · exact .inl ⟨h1, b, h, h3⟩
      · have : b = j := by omega
        subst this; exact .inr ⟨h1, h3⟩
theorem iter_cellA (N : Nat) (P Q : Nat → Nat → Bool) : ∀ k, iter (fun a R => iter (fun b R => iter (cellC P Q a b) N R) N R) k (fun _ _ => false) = fun x y => decide (x < k ∧ y < N) && compP N P Q x y
  | 0 => by funext x y; simp [iter]
  | k + 1 => by
    simp only [iter]
    rw [iter_cellA N P Q k, iter_cellB]
    funext x y
    unfold compP onP
    rw [Bool.eq_iff_iff]
    simp only [Bool.or_eq_true, Bool.and_eq_true, decide_eq_true_eq]
    constructor
    · rintro (⟨⟨h1, h2⟩, h3⟩ | ⟨⟨rfl, h2⟩, h3⟩)
      · exact ⟨⟨by omega, h2⟩, h3⟩
      · exact ⟨⟨by omega, h2⟩, h3⟩
    · rintro ⟨⟨h1, h2⟩, h3⟩
      rcases Nat.lt_or_ge x k with h | h
      · exact .inl ⟨⟨h, h2⟩, h3⟩
      · have : x = k := by omega
        subst this; exact .inr ⟨⟨rfl, h2⟩, h3⟩
theorem compR_rows (N : Nat) (P Q : Nat → Nat → Bool) : gridP N (compR N P Q) = gridP N (compP N P Q) := gridP_ext fun a ha b hb => by
  unfold compR
  rw [iter_cellA]
  simp [ha, hb]

theorem l2Compose_h (N : Nat) (P Q : Nat → Nat → Bool) (hN : N ≤ 40) :
    HSpec env.P 162 [.sl ((gridP N P).map lineSl), .sl ((gridP N Q).map lineSl)] [] (.hs 0 N) [.tree 139 1 ((gridP N (compP N P Q)).map lineOw)] := by
  refine HSpec_of_code (E := env.x [155] 0) env_ok.x (fn := Try.f162) Try.func162 rfl Try.call162 _ _ _ _ ?_
  ((repeat ((conv => whnf); first | refine brT ?_ | refine brF ?_)); conv => whnf)
  intro _
  rw [linesS_len]
  ((repeat ((conv => whnf); first | refine brT ?_ | refine brF ?_)); conv => whnf)
  refine ⟨[], _, _, _, _, l2Blank_P N hN, rfl, rfl, rfl, trivial, ?_⟩
  ((repeat ((conv => whnf); first | refine brT ?_ | refine brF ?_)); conv => whnf)
  intro _
  rw [linesS_len]
  ((repeat ((conv => whnf); first | refine brT ?_ | refine brF ?_)); conv => whnf)
  refine loop_ruleR (α := Nat) [.old 0] (fun a => [(46, .undef), (14, .int .i64 (a : Int))]) (fun a => [.tree 139 1 ((gridP N (iter (fun a R => iter (fun b R => iter (cellC P Q a b) N R) N R) a (fun _ _ => false))).map lineOw)]) (fun a => N - a) (fun a => a ≤ N) 0 (Nat.zero_le _) ?_ ?_
  · refine ⟨?_, ⟨rfl, rfl, trivial⟩, rfl⟩
    ((repeat ((conv => whnf); refine ⟨rfl, rfl, ?_⟩)); trivial)
  intro a ha
  generalize hK0 : kk _ = K0
  ((repeat ((conv => whnf); first | refine brT ?_ | refine brF ?_)); conv => whnf)
  (refine ⟨fun h1 => ?_, fun h1 => ?_⟩ <;> rw [h1])
  · have hal : a < N := by rw [ltI_t] at h1; omega
    have e1 := step_i (n := N) hal (by unfold Go.maxLen; omega)
    have ea : iter (fun a R => iter (fun b R => iter (cellC P Q a b) N R) N R) (a + 1) (fun _ _ => false) = iter (fun b R => iter (cellC P Q a b) N R) N (iter (fun a R => iter (fun b R => iter (cellC P Q a b) N R) N R) a (fun _ _ => false)) := rfl
    generalize iter (fun a R => iter (fun b R => iter (cellC P Q a b) N R) N R) a (fun _ _ => false) = R at ea
    ((repeat ((conv => whnf); first | refine brT ?_ | refine brF ?_)); conv => whnf)
    intro _
    rw [linesS_len]
    ((repeat ((conv => whnf); first | refine brT ?_ | refine brF ?_)); conv => whnf)
    refine loop_ruleR (α := Nat) [.old 0] (fun b => [(46, .undef), (19, .int .i64 (b : Int))]) (fun b => [.tree 139 1 ((gridP N (iter (fun b R => iter (cellC P Q a b) N R) b R)).map lineOw)]) (fun b => N - b) (fun b => b ≤ N) 0 (Nat.zero_le _) ?_ ?_
    · refine ⟨?_, ⟨rfl, rfl, trivial⟩, rfl⟩
      ((repeat ((conv => whnf); refine ⟨rfl, rfl, ?_⟩)); trivial)
    intro b hb
    generalize hK1 : kk _ = K1
    ((repeat ((conv => whnf); first | refine brT ?_ | refine brF ?_)); conv => whnf)
    (refine ⟨fun h2 => ?_, fun h2 => ?_⟩ <;> rw [h2])
    · have hbl : b < N := by rw [ltI_t] at h2; omega
      have e2 := step_i (n := N) hbl (by unfold Go.maxLen; omega)
      have eb : iter (fun b R => iter (cellC P Q a b) N R) (b + 1) R = iter (cellC P Q a b) N (iter (fun b R => iter (cellC P Q a b) N R) b R) := rfl
      generalize iter (fun b R => iter (cellC P Q a b) N R) b R = S at eb
      ((repeat ((conv => whnf); first | refine brT ?_ | refine brF ?_)); conv => whnf)
      intro _
      rw [linesS_len]
      ((repeat ((conv => whnf); first | refine brT ?_ | refine brF ?_)); conv => whnf)
      refine loop_ruleR (α := Nat) [.old 0] (fun c => [(46, .undef), (24, .int .i64 (c : Int))]) (fun c => [.tree 139 1 ((gridP N (iter (cellC P Q a b) c S)).map lineOw)]) (fun c => N - c) (fun c => c ≤ N) 0 (Nat.zero_le _) ?_ ?_
      · refine ⟨?_, ⟨rfl, rfl, trivial⟩, rfl⟩
        ((repeat ((conv => whnf); refine ⟨rfl, rfl, ?_⟩)); trivial)
      intro c hc
      generalize hK2 : kk _ = K2
      ((repeat ((conv => whnf); first | refine brT ?_ | refine brF ?_)); conv => whnf)
      (refine ⟨fun h3 => ?_, fun h3 => ?_⟩ <;> rw [h3])
      · have hcl : c < N := by rw [ltI_t] at h3; omega
        have e3 := step_i (n := N) hcl (by unfold Go.maxLen; omega)
        have ec : iter (cellC P Q a b) (c + 1) S = cellC P Q a b c (iter (cellC P Q a b) c S) := rfl
        generalize iter (cellC P Q a b) c S = T at ec
        ((repeat ((conv => whnf); first | refine brT ?_ | refine brF ?_)); conv => whnf)
        refine ⟨a, lineSl (lineP N P a), rfl, linesS_get hal, rfl, ?_⟩
        ((repeat ((conv => whnf); first | refine brT ?_ | refine brF ?_)); conv => whnf)
        refine ⟨b, .bool (P a b), rfl, cell_get hbl, rfl, ?_⟩
        ((repeat ((conv => whnf); first | refine brT ?_ | refine brF ?_)); conv => whnf)
        (refine ⟨fun h4 => ?_, fun h4 => ?_⟩ <;> rw [h4])
        · ((repeat ((conv => whnf); first | refine brT ?_ | refine brF ?_)); conv => whnf)
          refine ⟨b, lineSl (lineP N Q b), rfl, linesS_get hbl, rfl, ?_⟩
          ((repeat ((conv => whnf); first | refine brT ?_ | refine brF ?_)); conv => whnf)
          refine ⟨c, .bool (Q b c), rfl, cell_get hcl, rfl, ?_⟩
          ((repeat ((conv => whnf); first | refine brT ?_ | refine brF ?_)); conv => whnf)
          (refine ⟨fun h5 => ?_, fun h5 => ?_⟩ <;> rw [h5])
          · ((repeat ((conv => whnf); first | refine brT ?_ | refine brF ?_)); conv => whnf)
            have eq : cellC P Q a b c T = putP T a c true := by simp only [cellC, h4, h5]; rfl
            refine ⟨lines_len.symm, rfl, a, rfl, by rw [lines_len]; exact hal, ?_⟩
            ((repeat ((conv => whnf); first | refine brT ?_ | refine brF ?_)); conv => whnf)
            refine ⟨lines_len.symm, lineOw (lineP N T a), lineOw (lineP N T a), lines_get hal, rfl, ?_⟩
            ((repeat ((conv => whnf); first | refine brT ?_ | refine brF ?_)); conv => whnf)
            refine ⟨rfl, rfl, c, rfl, by rw [cells_len]; exact hcl, ?_⟩
            ((repeat ((conv => whnf); first | refine brT ?_ | refine brF ?_)); conv => whnf)
            refine ⟨rfl, c, [], .bool (T a c), rfl, by simp only [getP]; rw [cell_get hcl], rfl, rfl, rfl, (lineP N (putP T a c true) a).map bLV, by rw [cell_get hcl]; exact cells_put, ?_⟩
            ((repeat ((conv => whnf); first | refine brT ?_ | refine brF ?_)); conv => whnf)
            refine round_endR [.old 0] (c + 1) hcl (by omega) ⟨?_, ⟨by rw [cells_len, cells_len], rfl, congrArg (Blk.tree 139 1) (by rw [ec, eq]; exact lines_put), trivial⟩, rfl⟩
            ((repeat ((conv => whnf); first | refine ⟨rfl, e3, ?_⟩ | refine ⟨rfl, rfl, ?_⟩)); trivial)
          · ((repeat ((conv => whnf); first | refine brT ?_ | refine brF ?_)); conv => whnf)
            have eq : cellC P Q a b c T = T := by simp only [cellC, h4, h5]; rfl
            refine round_endR [.old 0] (c + 1) hcl (by omega) ⟨?_, ⟨rfl, congrArg (fun P => Blk.tree 139 1 ((gridP N P).map lineOw)) (by rw [ec, eq]), trivial⟩, rfl⟩
            ((repeat ((conv => whnf); first | refine ⟨rfl, e3, ?_⟩ | refine ⟨rfl, rfl, ?_⟩)); trivial)
        · ((repeat ((conv => whnf); first | refine brT ?_ | refine brF ?_)); conv => whnf)
          have eq : cellC P Q a b c T = T := by simp only [cellC, h4]; rfl
          refine round_endR [.old 0] (c + 1) hcl (by omega) ⟨?_, ⟨rfl, congrArg (fun P => Blk.tree 139 1 ((gridP N P).map lineOw)) (by rw [ec, eq]), trivial⟩, rfl⟩
          ((repeat ((conv => whnf); first | refine ⟨rfl, e3, ?_⟩ | refine ⟨rfl, rfl, ?_⟩)); trivial)
      · have hcl : c = N := by rw [ltI_f] at h3; omega
        subst hcl
        subst hK2
        ((repeat ((conv => whnf); first | refine brT ?_ | refine brF ?_)); conv => whnf)
        refine round_endR [.old 0] (b + 1) hbl (by omega) ⟨?_, ⟨rfl, congrArg (fun P => Blk.tree 139 1 ((gridP c P).map lineOw)) eb.symm, trivial⟩, rfl⟩
        ((repeat ((conv => whnf); first | refine ⟨rfl, e2, ?_⟩ | refine ⟨rfl, rfl, ?_⟩)); trivial)
    · have hbl : b = N := by rw [ltI_f] at h2; omega
      subst hbl
      subst hK1
      ((repeat ((conv => whnf); first | refine brT ?_ | refine brF ?_)); conv => whnf)
      refine round_endR [.old 0] (a + 1) hal (by omega) ⟨?_, ⟨rfl, congrArg (fun P => Blk.tree 139 1 ((gridP b P).map lineOw)) ea.symm, trivial⟩, rfl⟩
      ((repeat ((conv => whnf); first | refine ⟨rfl, e1, ?_⟩ | refine ⟨rfl, rfl, ?_⟩)); trivial)
  · have hal : a = N := by rw [ltI_f] at h1; omega
    subst hal
    subst hK0
    ((repeat ((conv => whnf); first | refine brT ?_ | refine brF ?_)); conv => whnf)
    exact ⟨[.hs 0 a], rfl, rfl, .inl ⟨⟨rfl, trivial⟩, ⟨congrArg (fun g : List (List Bool) => Blk.tree 139 1 (g.map lineOw)) (compR_rows a P Q), trivial⟩, rfl, rfl⟩⟩

theorem l2Grid_f (n : Int) (rows : List (List Int)) (hr : RelIn n rows) : FSpec env.P 119 [relLV n rows] (.own 139 1 ((gridP rows.length (relP rows)).map lineSl)) := by
  have h := FSpec_of_tree (r := .own 139 1 ((gridP rows.length (relP rows)).map lineSl)) (l2Grid_P n rows hr) (by
    simp only [exW]
    exact ⟨by rw [dms_lines, linesS_len], rfl, rfl, dms_lines _, by simp⟩)
  exact h
theorem l2Compose_f (N : Nat) (P Q : Nat → Nat → Bool) (hN : N ≤ 40) : FSpec env.P 162 [.sl ((gridP N P).map lineSl), .sl ((gridP N Q).map lineSl)] (.own 139 1 ((gridP N (compP N P Q)).map lineSl)) := by
  exact FSpec_of_tree (l2Compose_h N P Q hN) (by
    simp only [exW]
    exact ⟨by rw [dms_lines, linesS_len], rfl, rfl, dms_lines _, by simp⟩)
theorem l2Of_f (N : Nat) (P : Nat → Nat → Bool) (hN : N ≤ 40) : FSpec env.P 154 [.sl ((gridP N P).map lineSl)] (.st [.int .i64 (N : Int), .own 29 1 ((relRows N P).map rowSl)]) := by
  exact FSpec_of_tree (l2Of_P N P hN) (by
    simp only [relHS, exW, exsW]
    exact ⟨trivial, trivial, by rw [dms_rows]; simp, rfl, rfl, dms_rows _, by simp⟩)

theorem specCompose_f (n : Int) (rows : List (List Int)) (m : Int) (rows' : List (List Int)) :
    FSpec env.P 90 [relLV n rows, relLV m rows'] (relLV (rsN (alike n rows m rows') rows) (relRows (rsN (alike n rows m rows') rows) (compP rows.length (relP rows) (relP rows')))) := by
  refine FSpec_of_code env_ok (fn := Try.f90) Try.func90 rfl Try.call90 _ _ ?_
  ((repeat ((conv => whnf); first | refine brT ?_ | refine brF ?_)); conv => whnf)
  refine ⟨_, l2Both_spec n rows m rows', ?_⟩
  ((repeat ((conv => whnf); first | refine brT ?_ | refine brF ?_)); conv => whnf)
  (refine ⟨fun h => ?_, fun h => ?_⟩ <;> rw [h])
  · rw [notB_t] at h
    rw [h]
    ((repeat ((conv => whnf); first | refine brT ?_ | refine brF ?_)); conv => whnf)
    exact ⟨_, rfl, rfl, rfl, rfl, rfl, by simp [exsW]⟩
  rw [notB_f] at h
  rw [h, show rsN true rows = rows.length from rfl]
  obtain ⟨hr, hs, rfl, hl⟩ := alike_in h
  have hN := hr.size
  ((repeat ((conv => whnf); first | refine brT ?_ | refine brF ?_)); conv => whnf)
  refine ⟨true, by kernel_rfl, ?_⟩
  ((repeat ((conv => whnf); first | refine brT ?_ | refine brF ?_)); conv => whnf)
  refine ⟨_, l2Grid_f n rows hr, ?_⟩
  ((repeat ((conv => whnf); first | refine brT ?_ | refine brF ?_)); conv => whnf)
  have hq := l2Grid_f n rows' hs
  rw [hl] at hq
  refine ⟨_, hq, ?_⟩
  ((repeat ((conv => whnf); first | refine brT ?_ | refine brF ?_)); conv => whnf)
  refine ⟨_, l2Compose_f rows.length (relP rows) (relP rows') hN, ?_⟩
  ((repeat ((conv => whnf); first | refine brT ?_ | refine brF ?_)); conv => whnf)
  refine ⟨_, l2Of_f rows.length (compP rows.length (relP rows) (relP rows')) hN, ?_⟩
  ((repeat ((conv => whnf); first | refine brT ?_ | refine brF ?_)); conv => whnf)
  exact ⟨_, rfl, rfl, rfl, rfl, rfl, by simp [exsW]⟩
end Go.Proofs.Ytfdjeflnjciloaa

namespace Go.Proofs.Ytfdjeflnjciloaa
open Go.Lg
set_option maxHeartbeats 1600000
set_option maxRecDepth 10000
set_option linter.unusedVariables false
set_option linter.unusedSimpArgs false

/-- Combined place by place: those before (k, i) are done. -/
def mxP (f : Bool → Bool → Bool) (P Q : Nat → Nat → Bool) (k i : Nat) : Nat → Nat → Bool := fun a b => if a < k ∨ (a = k ∧ b < i) then f (P a b) (Q a b) else P a b
theorem mxP_zero {f : Bool → Bool → Bool} {P Q : Nat → Nat → Bool} : mxP f P Q 0 0 = P := by funext a b; simp [mxP]
theorem mxP_put {f : Bool → Bool → Bool} {P Q : Nat → Nat → Bool} {k i : Nat} : putP (mxP f P Q k i) k i (f (P k i) (Q k i)) = mxP f P Q k (i + 1) := by
  funext a b
  simp only [putP, mxP]
  by_cases e : a = k ∧ b = i
  · obtain ⟨rfl, rfl⟩ := e; simp
  · rw [if_neg e]
    have : (a < k ∨ (a = k ∧ b < i)) ↔ (a < k ∨ (a = k ∧ b < i + 1)) := by
      constructor
      · rintro (h | ⟨h, h'⟩)
        · exact .inl h
        · exact .inr ⟨h, by omega⟩
      · rintro (h | ⟨h, h'⟩)
        · exact .inl h
        · exact .inr ⟨h, by rcases Nat.lt_or_ge b i with h2 | h2; exact h2; exact absurd ⟨h, by omega⟩ e⟩
    simp only [this]
theorem mxP_at {f : Bool → Bool → Bool} {P Q : Nat → Nat → Bool} {k i : Nat} : mxP f P Q k i k i = P k i := by simp [mxP]
theorem mxP_row {f : Bool → Bool → Bool} {P Q : Nat → Nat → Bool} {N k : Nat} : gridP N (mxP f P Q k N) = gridP N (mxP f P Q (k + 1) 0) := gridP_ext fun a _ b hb => by
  simp only [mxP]
  have : (a < k ∨ (a = k ∧ b < N)) ↔ (a < k + 1 ∨ (a = k + 1 ∧ b < 0)) := by omega
  simp only [this]
theorem mxP_all {f : Bool → Bool → Bool} {P Q : Nat → Nat → Bool} {N : Nat} : relRows N (mxP f P Q N 0) = relRows N (allP f P Q) := relRows_ext fun a ha b _ => by simp [mxP, allP, ha]

theorem mx_cells {f : Bool → Bool → Bool} {P Q : Nat → Nat → Bool} {N k i : Nat} {v : Bool} (ev : f (P k i) (Q k i) = v) : ((lineP N (mxP f P Q k i) k).map bLV).set i (.bool v) = (lineP N (mxP f P Q k (i + 1)) k).map bLV := by
  subst ev
  rw [← mxP_put]; exact cells_put
theorem l2Mix_join (n : Int) (rows : List (List Int)) (m : Int) (rows' : List (List Int)) :
    HSpec env.P 161 [relLV n rows, relLV m rows', .int .i64 0] [] (relHS (rsN (alike n rows m rows') rows) 0 ((relRows (rsN (alike n rows m rows') rows) (allP or (relP rows) (relP rows'))).map rowOw).length)
      [.tree 29 1 ((relRows (rsN (alike n rows m rows') rows) (allP or (relP rows) (relP rows'))).map rowOw)] := by
  refine HSpec_of_code (E := env.x [119, 154] 0) env_ok.x (fn := Try.f161) Try.func161 rfl Try.call161 _ _ _ _ ?_
  ((repeat ((conv => whnf); first | refine brT ?_ | refine brF ?_)); conv => whnf)
  refine ⟨_, l2Both_spec n rows m rows', ?_⟩
  ((repeat ((conv => whnf); first | refine brT ?_ | refine brF ?_)); conv => whnf)
  (refine ⟨fun h => ?_, fun h => ?_⟩ <;> rw [h])
  · rw [notB_t] at h
    rw [h]
    ((repeat ((conv => whnf); first | refine brT ?_ | refine brF ?_)); conv => whnf)
    exact ⟨[relHS 0 0 0], rfl, rfl, .nl [.tmp 0 [1] true 29 1] [.old 3] ⟨⟨rfl, rfl, trivial⟩, ⟨rfl, rfl, trivial⟩, rfl⟩⟩
  rw [notB_f] at h
  rw [h, show rsN true rows = rows.length from rfl]
  obtain ⟨hr, hs, rfl, hl⟩ := alike_in h
  have hN := hr.size
  ((repeat ((conv => whnf); first | refine brT ?_ | refine brF ?_)); conv => whnf)
  refine ⟨[], _, _, _, _, l2Grid_P n rows hr, rfl, rfl, rfl, trivial, ?_⟩
  ((repeat ((conv => whnf); first | refine brT ?_ | refine brF ?_)); conv => whnf)
  have hq := l2Grid_P n rows' hs
  rw [hl] at hq
  refine ⟨[], _, _, _, _, hq, rfl, rfl, rfl, trivial, ?_⟩
  ((repeat ((conv => whnf); first | refine brT ?_ | refine brF ?_)); conv => whnf)
  generalize hP : relP rows = P
  generalize hQ : relP rows' = Q
  generalize rows.length = N at hN
  refine ⟨lines_len.symm, fun _ => ?_⟩
  ((repeat ((conv => whnf); first | refine brT ?_ | refine brF ?_)); conv => whnf)
  refine loop_ruleR (α := Nat) [.old 0, .old 1, .old 2, .old 3, .old 4] (fun k => [(22, .int .i64 (k : Int))]) (fun k => [.box (relLV n rows), .box (relLV n rows'), .box (.st [.int .i64 0, .nil]), .tree 139 1 ((gridP N (mxP or P Q k 0)).map lineOw), .tree 139 1 ((gridP N Q).map lineOw)]) (fun k => N - k) (fun k => k ≤ N) 0 (Nat.zero_le _) ?_ ?_
  · refine ⟨?_, ⟨rfl, rfl, rfl, rfl, rfl, rfl, rfl, congrArg (fun P => Blk.tree 139 1 ((gridP N P).map lineOw)) mxP_zero.symm, rfl, rfl, trivial⟩, rfl⟩
    ((repeat ((conv => whnf); refine ⟨rfl, rfl, ?_⟩)); trivial)
  intro k hk
  generalize hK0 : kk _ = K0
  ((repeat ((conv => whnf); first | refine brT ?_ | refine brF ?_)); conv => whnf)
  (refine ⟨fun h1 => ?_, fun h1 => ?_⟩ <;> rw [h1])
  · have hlt : k < N := by rw [ltI_t, lines_len] at h1; omega
    have e1 := step_i (n := N) hlt (by unfold Go.maxLen; omega)
    ((repeat ((conv => whnf); first | refine brT ?_ | refine brF ?_)); conv => whnf)
    refine ⟨lines_len.symm, fun _ => ?_⟩
    ((repeat ((conv => whnf); first | refine brT ?_ | refine brF ?_)); conv => whnf)
    refine loop_ruleR (α := Nat) [.old 0, .old 1, .old 2, .old 3, .old 4] (fun i => [(27, .int .i64 (i : Int))]) (fun i => [.box (relLV n rows), .box (relLV n rows'), .box (.st [.int .i64 0, .nil]), .tree 139 1 ((gridP N (mxP or P Q k i)).map lineOw), .tree 139 1 ((gridP N Q).map lineOw)]) (fun i => N - i) (fun i => i ≤ N) 0 (Nat.zero_le _) ?_ ?_
    · refine ⟨?_, ⟨rfl, rfl, rfl, rfl, rfl, rfl, rfl, rfl, rfl, rfl, trivial⟩, rfl⟩
      ((repeat ((conv => whnf); refine ⟨rfl, rfl, ?_⟩)); trivial)
    intro i hi
    generalize hK1 : kk _ = K1
    ((repeat ((conv => whnf); first | refine brT ?_ | refine brF ?_)); conv => whnf)
    (refine ⟨fun h2 => ?_, fun h2 => ?_⟩ <;> rw [h2])
    · have hil : i < N := by rw [ltI_t, lines_len] at h2; omega
      have e2 := step_i (n := N) hil (by unfold Go.maxLen; omega)
      refine ⟨fun _ => ?_, fun h3 => by rw [eqI_f] at h3; exact absurd rfl h3⟩
      ((repeat ((conv => whnf); first | refine brT ?_ | refine brF ?_)); conv => whnf)
      refine ⟨false, 22, by kernel_rfl, ?_⟩
      ((repeat ((conv => whnf); first | refine brT ?_ | refine brF ?_)); conv => whnf)
      refine ⟨lines_len.symm, rfl, k, rfl, by rw [lines_len]; exact hlt, ?_⟩
      ((repeat ((conv => whnf); first | refine brT ?_ | refine brF ?_)); conv => whnf)
      refine ⟨lines_len.symm, lineOw (lineP N (mxP or P Q k i) k), lineOw (lineP N (mxP or P Q k i) k), lines_get hlt, rfl, ?_⟩
      ((repeat ((conv => whnf); first | refine brT ?_ | refine brF ?_)); conv => whnf)
      refine ⟨by simp [gridP_len], rfl, k, rfl, by simp [gridP_len]; exact hlt, ?_⟩
      ((repeat ((conv => whnf); first | refine brT ?_ | refine brF ?_)); conv => whnf)
      refine .inl ⟨rfl, by simp [gridP_len], by simp [gridP_len, hlt, setP], rfl, ?_⟩
      ((repeat ((conv => whnf); first | refine brT ?_ | refine brF ?_)); conv => whnf)
      refine ⟨rfl, rfl, i, rfl, by rw [cells_len]; exact hil, ?_⟩
      ((repeat ((conv => whnf); first | refine brT ?_ | refine brF ?_)); conv => whnf)
      refine ⟨rfl, by simp, _, by simp only [getP]; rw [cell_get hil], rfl, ?_⟩
      ((repeat ((conv => whnf); first | refine brT ?_ | refine brF ?_)); conv => whnf)
      (refine ⟨fun h4 => ?_, fun h4 => ?_⟩ <;> rw [h4])
      · rw [mxP_at] at h4
        ((repeat ((conv => whnf); first | refine brT ?_ | refine brF ?_)); conv => whnf)
        have ev : or (P k i) (Q k i) = true := by simp [h4]
        refine ⟨rfl, rfl, i, rfl, by rw [cells_len]; exact hil, ?_⟩
        ((repeat ((conv => whnf); first | refine brT ?_ | refine brF ?_)); conv => whnf)
        refine ⟨rfl, i, [], .bool (mxP or P Q k i k i), rfl, by simp only [getP]; rw [cell_get hil], rfl, rfl, rfl, (lineP N (mxP or P Q k (i + 1)) k).map bLV, by rw [cell_get hil]; exact mx_cells ev, ?_⟩
        ((repeat ((conv => whnf); first | refine brT ?_ | refine brF ?_)); conv => whnf)
        refine round_endR [.old 0, .old 1, .old 2, .old 3, .old 4] (i + 1) hil (by omega) ⟨?_, ⟨by rw [cells_len, cells_len], rfl, rfl, rfl, rfl, rfl, rfl, rfl, congrArg (Blk.tree 139 1) (by rw [← mxP_put]; exact lines_put), rfl, rfl, trivial⟩, rfl⟩
        ((repeat ((conv => whnf); first | refine ⟨rfl, e2, ?_⟩ | refine ⟨rfl, rfl, ?_⟩)); trivial)
      · rw [mxP_at] at h4
        ((repeat ((conv => whnf); first | refine brT ?_ | refine brF ?_)); conv => whnf)
        refine ⟨lines_len.symm, rfl, k, rfl, by rw [lines_len]; exact hlt, ?_⟩
        ((repeat ((conv => whnf); first | refine brT ?_ | refine brF ?_)); conv => whnf)
        refine ⟨lines_len.symm, lineOw (lineP N Q k), lineOw (lineP N Q k), lines_get hlt, rfl, ?_⟩
        ((repeat ((conv => whnf); first | refine brT ?_ | refine brF ?_)); conv => whnf)
        refine ⟨rfl, rfl, i, rfl, by rw [cells_len]; exact hil, ?_⟩
        ((repeat ((conv => whnf); first | refine brT ?_ | refine brF ?_)); conv => whnf)
        refine ⟨rfl, by simp, _, by simp only [getP]; rw [cell_get hil], rfl, ?_⟩
        ((repeat ((conv => whnf); first | refine brT ?_ | refine brF ?_)); conv => whnf)
        have ev : or (P k i) (Q k i) = Q k i := by simp [h4]
        refine ⟨rfl, rfl, i, rfl, by rw [cells_len]; exact hil, ?_⟩
        ((repeat ((conv => whnf); first | refine brT ?_ | refine brF ?_)); conv => whnf)
        refine ⟨rfl, i, [], .bool (mxP or P Q k i k i), rfl, by simp only [getP]; rw [cell_get hil], rfl, rfl, rfl, (lineP N (mxP or P Q k (i + 1)) k).map bLV, by rw [cell_get hil]; exact mx_cells ev, ?_⟩
        ((repeat ((conv => whnf); first | refine brT ?_ | refine brF ?_)); conv => whnf)
        refine round_endR [.old 0, .old 1, .old 2, .old 3, .old 4] (i + 1) hil (by omega) ⟨?_, ⟨by rw [cells_len, cells_len], rfl, rfl, rfl, rfl, rfl, rfl, rfl, rfl, congrArg (Blk.tree 139 1) (by rw [← mxP_put]; exact lines_put), rfl, congrArg (Blk.tree 139 1) lines_same, trivial⟩, rfl⟩
        ((repeat ((conv => whnf); first | refine ⟨rfl, e2, ?_⟩ | refine ⟨rfl, rfl, ?_⟩)); trivial)
    · have hil : i = N := by rw [ltI_f, lines_len] at h2; omega
      subst hil
      subst hK1
      ((repeat ((conv => whnf); first | refine brT ?_ | refine brF ?_)); conv => whnf)
      refine round_endR [.old 0, .old 1, .old 2, .old 3, .old 4] (k + 1) hlt (by omega) ⟨?_, ⟨rfl, rfl, rfl, rfl, rfl, rfl, rfl, congrArg (fun g : List (List Bool) => Blk.tree 139 1 (g.map lineOw)) mxP_row, rfl, rfl, trivial⟩, rfl⟩
      ((repeat ((conv => whnf); first | refine ⟨rfl, e1, ?_⟩ | refine ⟨rfl, rfl, ?_⟩)); trivial)
  · have h3 : k = N := by rw [ltI_f, lines_len] at h1; omega
    subst h3
    subst hK0
    ((repeat ((conv => whnf); first | refine brT ?_ | refine brF ?_)); conv => whnf)
    have hR := l2Of_P k (mxP or P Q k 0) hN
    rw [mxP_all] at hR
    refine ⟨[], _, _, _, _, hR, rfl, ?_⟩
    ((repeat ((conv => whnf); first | refine brT ?_ | refine brF ?_)); conv => whnf)
    refine ⟨lines_len.symm, _, dms_lines _, ?_⟩
    ((repeat ((conv => whnf); first | refine brT ?_ | refine brF ?_)); conv => whnf)
    refine ⟨rfl, rfl, ⟨rfl, flatTs_rows _, trivial⟩, ?_⟩
    ((repeat ((conv => whnf); first | refine brT ?_ | refine brF ?_)); conv => whnf)
    refine ⟨[relHS k 0 ((relRows k (allP or P Q)).map rowOw).length], rfl, rfl, .inr ⟨[.old 5], ⟨rfl, rfl, trivial⟩, ⟨rfl, rfl, trivial⟩, rfl⟩⟩

theorem l2Mix_meet (n : Int) (rows : List (List Int)) (m : Int) (rows' : List (List Int)) :
    HSpec env.P 161 [relLV n rows, relLV m rows', .int .i64 1] [] (relHS (rsN (alike n rows m rows') rows) 0 ((relRows (rsN (alike n rows m rows') rows) (allP and (relP rows) (relP rows'))).map rowOw).length)
      [.tree 29 1 ((relRows (rsN (alike n rows m rows') rows) (allP and (relP rows) (relP rows'))).map rowOw)] := by
  refine HSpec_of_code (E := env.x [119, 154] 0) env_ok.x (fn := Try.f161) Try.func161 rfl Try.call161 _ _ _ _ ?_
  ((repeat ((conv => whnf); first | refine brT ?_ | refine brF ?_)); conv => whnf)
  refine ⟨_, l2Both_spec n rows m rows', ?_⟩
  ((repeat ((conv => whnf); first | refine brT ?_ | refine brF ?_)); conv => whnf)
  (refine ⟨fun h => ?_, fun h => ?_⟩ <;> rw [h])
  · rw [notB_t] at h
    rw [h]
    ((repeat ((conv => whnf); first | refine brT ?_ | refine brF ?_)); conv => whnf)
    exact ⟨[relHS 0 0 0], rfl, rfl, .nl [.tmp 0 [1] true 29 1] [.old 3] ⟨⟨rfl, rfl, trivial⟩, ⟨rfl, rfl, trivial⟩, rfl⟩⟩
  rw [notB_f] at h
  rw [h, show rsN true rows = rows.length from rfl]
  obtain ⟨hr, hs, rfl, hl⟩ := alike_in h
  have hN := hr.size
  ((repeat ((conv => whnf); first | refine brT ?_ | refine brF ?_)); conv => whnf)
  refine ⟨[], _, _, _, _, l2Grid_P n rows hr, rfl, rfl, rfl, trivial, ?_⟩
  ((repeat ((conv => whnf); first | refine brT ?_ | refine brF ?_)); conv => whnf)
  have hq := l2Grid_P n rows' hs
  rw [hl] at hq
  refine ⟨[], _, _, _, _, hq, rfl, rfl, rfl, trivial, ?_⟩
  ((repeat ((conv => whnf); first | refine brT ?_ | refine brF ?_)); conv => whnf)
  generalize hP : relP rows = P
  generalize hQ : relP rows' = Q
  generalize rows.length = N at hN
  refine ⟨lines_len.symm, fun _ => ?_⟩
  ((repeat ((conv => whnf); first | refine brT ?_ | refine brF ?_)); conv => whnf)
  refine loop_ruleR (α := Nat) [.old 0, .old 1, .old 2, .old 3, .old 4] (fun k => [(22, .int .i64 (k : Int))]) (fun k => [.box (relLV n rows), .box (relLV n rows'), .box (.st [.int .i64 0, .nil]), .tree 139 1 ((gridP N (mxP and P Q k 0)).map lineOw), .tree 139 1 ((gridP N Q).map lineOw)]) (fun k => N - k) (fun k => k ≤ N) 0 (Nat.zero_le _) ?_ ?_
  · refine ⟨?_, ⟨rfl, rfl, rfl, rfl, rfl, rfl, rfl, congrArg (fun P => Blk.tree 139 1 ((gridP N P).map lineOw)) mxP_zero.symm, rfl, rfl, trivial⟩, rfl⟩
    ((repeat ((conv => whnf); refine ⟨rfl, rfl, ?_⟩)); trivial)
  intro k hk
  generalize hK0 : kk _ = K0
  ((repeat ((conv => whnf); first | refine brT ?_ | refine brF ?_)); conv => whnf)
  (refine ⟨fun h1 => ?_, fun h1 => ?_⟩ <;> rw [h1])
  · have hlt : k < N := by rw [ltI_t, lines_len] at h1; omega
    have e1 := step_i (n := N) hlt (by unfold Go.maxLen; omega)
    ((repeat ((conv => whnf); first | refine brT ?_ | refine brF ?_)); conv => whnf)
    refine ⟨lines_len.symm, fun _ => ?_⟩
    ((repeat ((conv => whnf); first | refine brT ?_ | refine brF ?_)); conv => whnf)
    refine loop_ruleR (α := Nat) [.old 0, .old 1, .old 2, .old 3, .old 4] (fun i => [(27, .int .i64 (i : Int))]) (fun i => [.box (relLV n rows), .box (relLV n rows'), .box (.st [.int .i64 0, .nil]), .tree 139 1 ((gridP N (mxP and P Q k i)).map lineOw), .tree 139 1 ((gridP N Q).map lineOw)]) (fun i => N - i) (fun i => i ≤ N) 0 (Nat.zero_le _) ?_ ?_
    · refine ⟨?_, ⟨rfl, rfl, rfl, rfl, rfl, rfl, rfl, rfl, rfl, rfl, trivial⟩, rfl⟩
      ((repeat ((conv => whnf); refine ⟨rfl, rfl, ?_⟩)); trivial)
    intro i hi
    generalize hK1 : kk _ = K1
    ((repeat ((conv => whnf); first | refine brT ?_ | refine brF ?_)); conv => whnf)
    (refine ⟨fun h2 => ?_, fun h2 => ?_⟩ <;> rw [h2])
    · have hil : i < N := by rw [ltI_t, lines_len] at h2; omega
      have e2 := step_i (n := N) hil (by unfold Go.maxLen; omega)
      refine ⟨fun h3 => by rw [eqI_t] at h3; exact absurd h3 (by decide), fun _ => ?_⟩
      ((repeat ((conv => whnf); first | refine brT ?_ | refine brF ?_)); conv => whnf)
      refine ⟨fun _ => ?_, fun h3 => by rw [eqI_f] at h3; exact absurd rfl h3⟩
      ((repeat ((conv => whnf); first | refine brT ?_ | refine brF ?_)); conv => whnf)
      refine ⟨false, 22, by kernel_rfl, ?_⟩
      ((repeat ((conv => whnf); first | refine brT ?_ | refine brF ?_)); conv => whnf)
      refine ⟨lines_len.symm, rfl, k, rfl, by rw [lines_len]; exact hlt, ?_⟩
      ((repeat ((conv => whnf); first | refine brT ?_ | refine brF ?_)); conv => whnf)
      refine ⟨lines_len.symm, lineOw (lineP N (mxP and P Q k i) k), lineOw (lineP N (mxP and P Q k i) k), lines_get hlt, rfl, ?_⟩
      ((repeat ((conv => whnf); first | refine brT ?_ | refine brF ?_)); conv => whnf)
      refine ⟨by simp [gridP_len], rfl, k, rfl, by simp [gridP_len]; exact hlt, ?_⟩
      ((repeat ((conv => whnf); first | refine brT ?_ | refine brF ?_)); conv => whnf)
      refine .inl ⟨rfl, by simp [gridP_len], by simp [gridP_len, hlt, setP], rfl, ?_⟩
      ((repeat ((conv => whnf); first | refine brT ?_ | refine brF ?_)); conv => whnf)
      refine ⟨rfl, rfl, i, rfl, by rw [cells_len]; exact hil, ?_⟩
      ((repeat ((conv => whnf); first | refine brT ?_ | refine brF ?_)); conv => whnf)
      refine ⟨rfl, by simp, _, by simp only [getP]; rw [cell_get hil], rfl, ?_⟩
      ((repeat ((conv => whnf); first | refine brT ?_ | refine brF ?_)); conv => whnf)
      (refine ⟨fun h4 => ?_, fun h4 => ?_⟩ <;> rw [h4])
      · rw [mxP_at] at h4
        ((repeat ((conv => whnf); first | refine brT ?_ | refine brF ?_)); conv => whnf)
        refine ⟨lines_len.symm, rfl, k, rfl, by rw [lines_len]; exact hlt, ?_⟩
        ((repeat ((conv => whnf); first | refine brT ?_ | refine brF ?_)); conv => whnf)
        refine ⟨lines_len.symm, lineOw (lineP N Q k), lineOw (lineP N Q k), lines_get hlt, rfl, ?_⟩
        ((repeat ((conv => whnf); first | refine brT ?_ | refine brF ?_)); conv => whnf)
        refine ⟨rfl, rfl, i, rfl, by rw [cells_len]; exact hil, ?_⟩
        ((repeat ((conv => whnf); first | refine brT ?_ | refine brF ?_)); conv => whnf)
        refine ⟨rfl, by simp, _, by simp only [getP]; rw [cell_get hil], rfl, ?_⟩
        ((repeat ((conv => whnf); first | refine brT ?_ | refine brF ?_)); conv => whnf)
        have ev : and (P k i) (Q k i) = Q k i := by simp [h4]
        refine ⟨rfl, rfl, i, rfl, by rw [cells_len]; exact hil, ?_⟩
        ((repeat ((conv => whnf); first | refine brT ?_ | refine brF ?_)); conv => whnf)
        refine ⟨rfl, i, [], .bool (mxP and P Q k i k i), rfl, by simp only [getP]; rw [cell_get hil], rfl, rfl, rfl, (lineP N (mxP and P Q k (i + 1)) k).map bLV, by rw [cell_get hil]; exact mx_cells ev, ?_⟩
        ((repeat ((conv => whnf); first | refine brT ?_ | refine brF ?_)); conv => whnf)
        refine round_endR [.old 0, .old 1, .old 2, .old 3, .old 4] (i + 1) hil (by omega) ⟨?_, ⟨by rw [cells_len, cells_len], rfl, rfl, rfl, rfl, rfl, rfl, rfl, rfl, congrArg (Blk.tree 139 1) (by rw [← mxP_put]; exact lines_put), rfl, congrArg (Blk.tree 139 1) lines_same, trivial⟩, rfl⟩
        ((repeat ((conv => whnf); first | refine ⟨rfl, e2, ?_⟩ | refine ⟨rfl, rfl, ?_⟩)); trivial)
      · rw [mxP_at] at h4
        ((repeat ((conv => whnf); first | refine brT ?_ | refine brF ?_)); conv => whnf)
        have ev : and (P k i) (Q k i) = false := by simp [h4]
        refine ⟨rfl, rfl, i, rfl, by rw [cells_len]; exact hil, ?_⟩
        ((repeat ((conv => whnf); first | refine brT ?_ | refine brF ?_)); conv => whnf)
        refine ⟨rfl, i, [], .bool (mxP and P Q k i k i), rfl, by simp only [getP]; rw [cell_get hil], rfl, rfl, rfl, (lineP N (mxP and P Q k (i + 1)) k).map bLV, by rw [cell_get hil]; exact mx_cells ev, ?_⟩
        ((repeat ((conv => whnf); first | refine brT ?_ | refine brF ?_)); conv => whnf)
        refine round_endR [.old 0, .old 1, .old 2, .old 3, .old 4] (i + 1) hil (by omega) ⟨?_, ⟨by rw [cells_len, cells_len], rfl, rfl, rfl, rfl, rfl, rfl, rfl, congrArg (Blk.tree 139 1) (by rw [← mxP_put]; exact lines_put), rfl, rfl, trivial⟩, rfl⟩
        ((repeat ((conv => whnf); first | refine ⟨rfl, e2, ?_⟩ | refine ⟨rfl, rfl, ?_⟩)); trivial)
    · have hil : i = N := by rw [ltI_f, lines_len] at h2; omega
      subst hil
      subst hK1
      ((repeat ((conv => whnf); first | refine brT ?_ | refine brF ?_)); conv => whnf)
      refine round_endR [.old 0, .old 1, .old 2, .old 3, .old 4] (k + 1) hlt (by omega) ⟨?_, ⟨rfl, rfl, rfl, rfl, rfl, rfl, rfl, congrArg (fun g : List (List Bool) => Blk.tree 139 1 (g.map lineOw)) mxP_row, rfl, rfl, trivial⟩, rfl⟩
      ((repeat ((conv => whnf); first | refine ⟨rfl, e1, ?_⟩ | refine ⟨rfl, rfl, ?_⟩)); trivial)
  · have h3 : k = N := by rw [ltI_f, lines_len] at h1; omega
    subst h3
    subst hK0
    ((repeat ((conv => whnf); first | refine brT ?_ | refine brF ?_)); conv => whnf)
    have hR := l2Of_P k (mxP and P Q k 0) hN
    rw [mxP_all] at hR
    refine ⟨[], _, _, _, _, hR, rfl, ?_⟩
    ((repeat ((conv => whnf); first | refine brT ?_ | refine brF ?_)); conv => whnf)
    refine ⟨lines_len.symm, _, dms_lines _, ?_⟩
    ((repeat ((conv => whnf); first | refine brT ?_ | refine brF ?_)); conv => whnf)
    refine ⟨rfl, rfl, ⟨rfl, flatTs_rows _, trivial⟩, ?_⟩
    ((repeat ((conv => whnf); first | refine brT ?_ | refine brF ?_)); conv => whnf)
    refine ⟨[relHS k 0 ((relRows k (allP and P Q)).map rowOw).length], rfl, rfl, .inr ⟨[.old 5], ⟨rfl, rfl, trivial⟩, ⟨rfl, rfl, trivial⟩, rfl⟩⟩

theorem l2Mix_less (n : Int) (rows : List (List Int)) (m : Int) (rows' : List (List Int)) :
    HSpec env.P 161 [relLV n rows, relLV m rows', .int .i64 2] [] (relHS (rsN (alike n rows m rows') rows) 0 ((relRows (rsN (alike n rows m rows') rows) (allP (fun x y => x && !y) (relP rows) (relP rows'))).map rowOw).length)
      [.tree 29 1 ((relRows (rsN (alike n rows m rows') rows) (allP (fun x y => x && !y) (relP rows) (relP rows'))).map rowOw)] := by
  refine HSpec_of_code (E := env.x [119, 154] 0) env_ok.x (fn := Try.f161) Try.func161 rfl Try.call161 _ _ _ _ ?_
  ((repeat ((conv => whnf); first | refine brT ?_ | refine brF ?_)); conv => whnf)
  refine ⟨_, l2Both_spec n rows m rows', ?_⟩
  ((repeat ((conv => whnf); first | refine brT ?_ | refine brF ?_)); conv => whnf)
  (refine ⟨fun h => ?_, fun h => ?_⟩ <;> rw [h])
  · rw [notB_t] at h
    rw [h]
    ((repeat ((conv => whnf); first | refine brT ?_ | refine brF ?_)); conv => whnf)
    exact ⟨[relHS 0 0 0], rfl, rfl, .nl [.tmp 0 [1] true 29 1] [.old 3] ⟨⟨rfl, rfl, trivial⟩, ⟨rfl, rfl, trivial⟩, rfl⟩⟩
  rw [notB_f] at h
  rw [h, show rsN true rows = rows.length from rfl]
  obtain ⟨hr, hs, rfl, hl⟩ := alike_in h
  have hN := hr.size
  ((repeat ((conv => whnf); first | refine brT ?_ | refine brF ?_)); conv => whnf)
  refine ⟨[], _, _, _, _, l2Grid_P n rows hr, rfl, rfl, rfl, trivial, ?_⟩
  ((repeat ((conv => whnf); first | refine brT ?_ | refine brF ?_)); conv => whnf)
  have hq := l2Grid_P n rows' hs
  rw [hl] at hq
  refine ⟨[], _, _, _, _, hq, rfl, rfl, rfl, trivial, ?_⟩
  ((repeat ((conv => whnf); first | refine brT ?_ | refine brF ?_)); conv => whnf)
  generalize hP : relP rows = P
  generalize hQ : relP rows' = Q
  generalize rows.length = N at hN
  refine ⟨lines_len.symm, fun _ => ?_⟩
  ((repeat ((conv => whnf); first | refine brT ?_ | refine brF ?_)); conv => whnf)
  refine loop_ruleR (α := Nat) [.old 0, .old 1, .old 2, .old 3, .old 4] (fun k => [(22, .int .i64 (k : Int))]) (fun k => [.box (relLV n rows), .box (relLV n rows'), .box (.st [.int .i64 0, .nil]), .tree 139 1 ((gridP N (mxP (fun x y => x && !y) P Q k 0)).map lineOw), .tree 139 1 ((gridP N Q).map lineOw)]) (fun k => N - k) (fun k => k ≤ N) 0 (Nat.zero_le _) ?_ ?_
  · refine ⟨?_, ⟨rfl, rfl, rfl, rfl, rfl, rfl, rfl, congrArg (fun P => Blk.tree 139 1 ((gridP N P).map lineOw)) mxP_zero.symm, rfl, rfl, trivial⟩, rfl⟩
    ((repeat ((conv => whnf); refine ⟨rfl, rfl, ?_⟩)); trivial)
  intro k hk
  generalize hK0 : kk _ = K0
  ((repeat ((conv => whnf); first | refine brT ?_ | refine brF ?_)); conv => whnf)
  (refine ⟨fun h1 => ?_, fun h1 => ?_⟩ <;> rw [h1])
  · have hlt : k < N := by rw [ltI_t, lines_len] at h1; omega
    have e1 := step_i (n := N) hlt (by unfold Go.maxLen; omega)
    ((repeat ((conv => whnf); first | refine brT ?_ | refine brF ?_)); conv => whnf)
    refine ⟨lines_len.symm, fun _ => ?_⟩
    ((repeat ((conv => whnf); first | refine brT ?_ | refine brF ?_)); conv => whnf)
    refine loop_ruleR (α := Nat) [.old 0, .old 1, .old 2, .old 3, .old 4] (fun i => [(27, .int .i64 (i : Int))]) (fun i => [.box (relLV n rows), .box (relLV n rows'), .box (.st [.int .i64 0, .nil]), .tree 139 1 ((gridP N (mxP (fun x y => x && !y) P Q k i)).map lineOw), .tree 139 1 ((gridP N Q).map lineOw)]) (fun i => N - i) (fun i => i ≤ N) 0 (Nat.zero_le _) ?_ ?_
    · refine ⟨?_, ⟨rfl, rfl, rfl, rfl, rfl, rfl, rfl, rfl, rfl, rfl, trivial⟩, rfl⟩
      ((repeat ((conv => whnf); refine ⟨rfl, rfl, ?_⟩)); trivial)
    intro i hi
    generalize hK1 : kk _ = K1
    ((repeat ((conv => whnf); first | refine brT ?_ | refine brF ?_)); conv => whnf)
    (refine ⟨fun h2 => ?_, fun h2 => ?_⟩ <;> rw [h2])
    · have hil : i < N := by rw [ltI_t, lines_len] at h2; omega
      have e2 := step_i (n := N) hil (by unfold Go.maxLen; omega)
      refine ⟨fun h3 => by rw [eqI_t] at h3; exact absurd h3 (by decide), fun _ => ?_⟩
      ((repeat ((conv => whnf); first | refine brT ?_ | refine brF ?_)); conv => whnf)
      refine ⟨fun h3 => by rw [eqI_t] at h3; exact absurd h3 (by decide), fun _ => ?_⟩
      ((repeat ((conv => whnf); first | refine brT ?_ | refine brF ?_)); conv => whnf)
      refine ⟨false, 23, by kernel_rfl, ?_⟩
      ((repeat ((conv => whnf); first | refine brT ?_ | refine brF ?_)); conv => whnf)
      refine ⟨lines_len.symm, rfl, k, rfl, by rw [lines_len]; exact hlt, ?_⟩
      ((repeat ((conv => whnf); first | refine brT ?_ | refine brF ?_)); conv => whnf)
      refine ⟨lines_len.symm, lineOw (lineP N (mxP (fun x y => x && !y) P Q k i) k), lineOw (lineP N (mxP (fun x y => x && !y) P Q k i) k), lines_get hlt, rfl, ?_⟩
      ((repeat ((conv => whnf); first | refine brT ?_ | refine brF ?_)); conv => whnf)
      refine ⟨by simp [gridP_len], rfl, k, rfl, by simp [gridP_len]; exact hlt, ?_⟩
      ((repeat ((conv => whnf); first | refine brT ?_ | refine brF ?_)); conv => whnf)
      refine .inl ⟨rfl, by simp [gridP_len], by simp [gridP_len, hlt, setP], rfl, ?_⟩
      ((repeat ((conv => whnf); first | refine brT ?_ | refine brF ?_)); conv => whnf)
      refine ⟨rfl, rfl, i, rfl, by rw [cells_len]; exact hil, ?_⟩
      ((repeat ((conv => whnf); first | refine brT ?_ | refine brF ?_)); conv => whnf)
      refine ⟨rfl, by simp, _, by simp only [getP]; rw [cell_get hil], rfl, ?_⟩
      ((repeat ((conv => whnf); first | refine brT ?_ | refine brF ?_)); conv => whnf)
      (refine ⟨fun h4 => ?_, fun h4 => ?_⟩ <;> rw [h4])
      · rw [mxP_at] at h4
        ((repeat ((conv => whnf); first | refine brT ?_ | refine brF ?_)); conv => whnf)
        refine ⟨lines_len.symm, rfl, k, rfl, by rw [lines_len]; exact hlt, ?_⟩
        ((repeat ((conv => whnf); first | refine brT ?_ | refine brF ?_)); conv => whnf)
        refine ⟨lines_len.symm, lineOw (lineP N Q k), lineOw (lineP N Q k), lines_get hlt, rfl, ?_⟩
        ((repeat ((conv => whnf); first | refine brT ?_ | refine brF ?_)); conv => whnf)
        refine ⟨rfl, rfl, i, rfl, by rw [cells_len]; exact hil, ?_⟩
        ((repeat ((conv => whnf); first | refine brT ?_ | refine brF ?_)); conv => whnf)
        refine ⟨rfl, by simp, _, by simp only [getP]; rw [cell_get hil], rfl, ?_⟩
        ((repeat ((conv => whnf); first | refine brT ?_ | refine brF ?_)); conv => whnf)
        have ev : (fun x y => x && !y) (P k i) (Q k i) = notB (Q k i) := by simp [h4, notB]
        refine ⟨rfl, rfl, i, rfl, by rw [cells_len]; exact hil, ?_⟩
        ((repeat ((conv => whnf); first | refine brT ?_ | refine brF ?_)); conv => whnf)
        refine ⟨rfl, i, [], .bool (mxP (fun x y => x && !y) P Q k i k i), rfl, by simp only [getP]; rw [cell_get hil], rfl, rfl, rfl, (lineP N (mxP (fun x y => x && !y) P Q k (i + 1)) k).map bLV, by rw [cell_get hil]; exact mx_cells ev, ?_⟩
        ((repeat ((conv => whnf); first | refine brT ?_ | refine brF ?_)); conv => whnf)
        refine round_endR [.old 0, .old 1, .old 2, .old 3, .old 4] (i + 1) hil (by omega) ⟨?_, ⟨by rw [cells_len, cells_len], rfl, rfl, rfl, rfl, rfl, rfl, rfl, rfl, congrArg (Blk.tree 139 1) (by rw [← mxP_put]; exact lines_put), rfl, congrArg (Blk.tree 139 1) lines_same, trivial⟩, rfl⟩
        ((repeat ((conv => whnf); first | refine ⟨rfl, e2, ?_⟩ | refine ⟨rfl, rfl, ?_⟩)); trivial)
      · rw [mxP_at] at h4
        ((repeat ((conv => whnf); first | refine brT ?_ | refine brF ?_)); conv => whnf)
        have ev : (fun x y => x && !y) (P k i) (Q k i) = false := by simp [h4]
        refine ⟨rfl, rfl, i, rfl, by rw [cells_len]; exact hil, ?_⟩
        ((repeat ((conv => whnf); first | refine brT ?_ | refine brF ?_)); conv => whnf)
        refine ⟨rfl, i, [], .bool (mxP (fun x y => x && !y) P Q k i k i), rfl, by simp only [getP]; rw [cell_get hil], rfl, rfl, rfl, (lineP N (mxP (fun x y => x && !y) P Q k (i + 1)) k).map bLV, by rw [cell_get hil]; exact mx_cells ev, ?_⟩
        ((repeat ((conv => whnf); first | refine brT ?_ | refine brF ?_)); conv => whnf)
        refine round_endR [.old 0, .old 1, .old 2, .old 3, .old 4] (i + 1) hil (by omega) ⟨?_, ⟨by rw [cells_len, cells_len], rfl, rfl, rfl, rfl, rfl, rfl, rfl, congrArg (Blk.tree 139 1) (by rw [← mxP_put]; exact lines_put), rfl, rfl, trivial⟩, rfl⟩
        ((repeat ((conv => whnf); first | refine ⟨rfl, e2, ?_⟩ | refine ⟨rfl, rfl, ?_⟩)); trivial)
    · have hil : i = N := by rw [ltI_f, lines_len] at h2; omega
      subst hil
      subst hK1
      ((repeat ((conv => whnf); first | refine brT ?_ | refine brF ?_)); conv => whnf)
      refine round_endR [.old 0, .old 1, .old 2, .old 3, .old 4] (k + 1) hlt (by omega) ⟨?_, ⟨rfl, rfl, rfl, rfl, rfl, rfl, rfl, congrArg (fun g : List (List Bool) => Blk.tree 139 1 (g.map lineOw)) mxP_row, rfl, rfl, trivial⟩, rfl⟩
      ((repeat ((conv => whnf); first | refine ⟨rfl, e1, ?_⟩ | refine ⟨rfl, rfl, ?_⟩)); trivial)
  · have h3 : k = N := by rw [ltI_f, lines_len] at h1; omega
    subst h3
    subst hK0
    ((repeat ((conv => whnf); first | refine brT ?_ | refine brF ?_)); conv => whnf)
    have hR := l2Of_P k (mxP (fun x y => x && !y) P Q k 0) hN
    rw [mxP_all] at hR
    refine ⟨[], _, _, _, _, hR, rfl, ?_⟩
    ((repeat ((conv => whnf); first | refine brT ?_ | refine brF ?_)); conv => whnf)
    refine ⟨lines_len.symm, _, dms_lines _, ?_⟩
    ((repeat ((conv => whnf); first | refine brT ?_ | refine brF ?_)); conv => whnf)
    refine ⟨rfl, rfl, ⟨rfl, flatTs_rows _, trivial⟩, ?_⟩
    ((repeat ((conv => whnf); first | refine brT ?_ | refine brF ?_)); conv => whnf)
    refine ⟨[relHS k 0 ((relRows k (allP (fun x y => x && !y) P Q)).map rowOw).length], rfl, rfl, .inr ⟨[.old 5], ⟨rfl, rfl, trivial⟩, ⟨rfl, rfl, trivial⟩, rfl⟩⟩

end Go.Proofs.Ytfdjeflnjciloaa

namespace Go.Proofs.Ytfdjeflnjciloaa
open Go.Lg
set_option maxHeartbeats 1600000
set_option maxRecDepth 10000
set_option linter.unusedVariables false
set_option linter.unusedSimpArgs false

theorem specClosure_h (n : Int) (rows : List (List Int)) :
    HSpec env.P 92 [relLV n rows] [] (relHS (rsN (relOk n rows) rows) 0 ((relRows (rsN (relOk n rows) rows) (closP rows.length (relP rows))).map rowOw).length) [.tree 29 1 ((relRows (rsN (relOk n rows) rows) (closP rows.length (relP rows))).map rowOw)] := by
  refine HSpec_of_code (E := env.x [119, 154] 0) env_ok.x (fn := Try.f92) Try.func92 rfl Try.call92 _ _ _ _ ?_
  ((repeat ((conv => whnf); first | refine brT ?_ | refine brF ?_)); conv => whnf)
  refine ⟨_, isRelation_spec n rows, ?_⟩
  ((repeat ((conv => whnf); first | refine brT ?_ | refine brF ?_)); conv => whnf)
  (refine ⟨fun h => ?_, fun h => ?_⟩ <;> rw [h])
  · rw [notB_t] at h
    rw [h]
    ((repeat ((conv => whnf); first | refine brT ?_ | refine brF ?_)); conv => whnf)
    exact ⟨[relHS 0 0 0], rfl, rfl, .nl [.tmp 0 [1] true 29 1] [.old 2] ⟨⟨rfl, rfl, trivial⟩, ⟨rfl, rfl, trivial⟩, rfl⟩⟩
  rw [notB_f] at h
  rw [h, show rsN true rows = rows.length from rfl]
  have hr := relIn_of h
  have hN := hr.size
  ((repeat ((conv => whnf); first | refine brT ?_ | refine brF ?_)); conv => whnf)
  refine ⟨[], _, _, _, _, l2Grid_P n rows hr, rfl, rfl, rfl, trivial, ?_⟩
  ((repeat ((conv => whnf); first | refine brT ?_ | refine brF ?_)); conv => whnf)
  generalize relP rows = P
  generalize rows.length = N at hN
  refine ⟨lines_len.symm, fun _ => ?_⟩
  ((repeat ((conv => whnf); first | refine brT ?_ | refine brF ?_)); conv => whnf)
  refine loop_ruleR (α := Nat) [.old 0, .old 1, .old 2] (fun k => [(31, .undef), (39, .undef), (47, .undef), (15, .int .i64 (k : Int))]) (fun k => [.box (relLV n rows), .box (.st [.int .i64 0, .nil]), .tree 139 1 ((gridP N (iter (roundC N) k P)).map lineOw)]) (fun k => N - k) (fun k => k ≤ N) 0 (Nat.zero_le _) ?_ ?_
  · refine ⟨?_, ⟨rfl, rfl, rfl, rfl, rfl, rfl, trivial⟩, rfl⟩
    ((repeat ((conv => whnf); refine ⟨rfl, rfl, ?_⟩)); trivial)
  intro k hk
  generalize hK0 : kk _ = K0
  ((repeat ((conv => whnf); first | refine brT ?_ | refine brF ?_)); conv => whnf)
  (refine ⟨fun h1 => ?_, fun h1 => ?_⟩ <;> rw [h1])
  · have hlt : k < N := by rw [ltI_t, lines_len] at h1; omega
    have e1 := step_i (n := N) hlt (by unfold Go.maxLen; omega)
    have en : iter (roundC N) (k + 1) P = iter (fun a P => iter (stepCell k a) N P) N (iter (roundC N) k P) := rfl
    generalize iter (roundC N) k P = R at en
    ((repeat ((conv => whnf); first | refine brT ?_ | refine brF ?_)); conv => whnf)
    refine ⟨lines_len.symm, fun _ => ?_⟩
    ((repeat ((conv => whnf); first | refine brT ?_ | refine brF ?_)); conv => whnf)
    refine loop_ruleR (α := Nat) [.old 0, .old 1, .old 2] (fun a => [(31, .undef), (39, .undef), (47, .undef), (20, .int .i64 (a : Int))]) (fun a => [.box (relLV n rows), .box (.st [.int .i64 0, .nil]), .tree 139 1 ((gridP N (iter (fun a P => iter (stepCell k a) N P) a R)).map lineOw)]) (fun a => N - a) (fun a => a ≤ N) 0 (Nat.zero_le _) ?_ ?_
    · refine ⟨?_, ⟨rfl, rfl, rfl, rfl, rfl, rfl, trivial⟩, rfl⟩
      ((repeat ((conv => whnf); refine ⟨rfl, rfl, ?_⟩)); trivial)
    intro a ha
    generalize hK1 : kk _ = K1
    ((repeat ((conv => whnf); first | refine brT ?_ | refine brF ?_)); conv => whnf)
    (refine ⟨fun h2 => ?_, fun h2 => ?_⟩ <;> rw [h2])
    · have hal : a < N := by rw [ltI_t, lines_len] at h2; omega
      have e2 := step_i (n := N) hal (by unfold Go.maxLen; omega)
      have ea : iter (fun a P => iter (stepCell k a) N P) (a + 1) R = iter (stepCell k a) N (iter (fun a P => iter (stepCell k a) N P) a R) := rfl
      generalize iter (fun a P => iter (stepCell k a) N P) a R = S at ea
      ((repeat ((conv => whnf); first | refine brT ?_ | refine brF ?_)); conv => whnf)
      refine ⟨lines_len.symm, fun _ => ?_⟩
      ((repeat ((conv => whnf); first | refine brT ?_ | refine brF ?_)); conv => whnf)
      refine loop_ruleR (α := Nat) [.old 0, .old 1, .old 2] (fun b => [(31, .undef), (39, .undef), (47, .undef), (25, .int .i64 (b : Int))]) (fun b => [.box (relLV n rows), .box (.st [.int .i64 0, .nil]), .tree 139 1 ((gridP N (iter (stepCell k a) b S)).map lineOw)]) (fun b => N - b) (fun b => b ≤ N) 0 (Nat.zero_le _) ?_ ?_
      · refine ⟨?_, ⟨rfl, rfl, rfl, rfl, rfl, rfl, trivial⟩, rfl⟩
        ((repeat ((conv => whnf); refine ⟨rfl, rfl, ?_⟩)); trivial)
      intro b hb
      generalize hK2 : kk _ = K2
      ((repeat ((conv => whnf); first | refine brT ?_ | refine brF ?_)); conv => whnf)
      (refine ⟨fun h3 => ?_, fun h3 => ?_⟩ <;> rw [h3])
      · have hbl : b < N := by rw [ltI_t, lines_len] at h3; omega
        have e3 := step_i (n := N) hbl (by unfold Go.maxLen; omega)
        have eb : iter (stepCell k a) (b + 1) S = stepCell k a b (iter (stepCell k a) b S) := rfl
        generalize iter (stepCell k a) b S = Q at eb
        ((repeat ((conv => whnf); first | refine brT ?_ | refine brF ?_)); conv => whnf)
        refine ⟨lines_len.symm, rfl, a, rfl, by rw [lines_len]; exact hal, ?_⟩
        ((repeat ((conv => whnf); first | refine brT ?_ | refine brF ?_)); conv => whnf)
        refine ⟨lines_len.symm, lineOw (lineP N Q a), lineOw (lineP N Q a), lines_get hal, rfl, ?_⟩
        ((repeat ((conv => whnf); first | refine brT ?_ | refine brF ?_)); conv => whnf)
        refine ⟨rfl, rfl, k, rfl, by rw [cells_len]; exact hlt, ?_⟩
        ((repeat ((conv => whnf); first | refine brT ?_ | refine brF ?_)); conv => whnf)
        refine ⟨rfl, by simp, _, by simp only [getP]; rw [cell_get hlt], rfl, ?_⟩
        ((repeat ((conv => whnf); first | refine brT ?_ | refine brF ?_)); conv => whnf)
        (refine ⟨fun h4 => ?_, fun h4 => ?_⟩ <;> rw [h4])
        · ((repeat ((conv => whnf); first | refine brT ?_ | refine brF ?_)); conv => whnf)
          refine ⟨by simp [gridP_len], rfl, k, rfl, by simp [gridP_len]; exact hlt, ?_⟩
          ((repeat ((conv => whnf); first | refine brT ?_ | refine brF ?_)); conv => whnf)
          refine .inr ?_
          ((repeat ((conv => whnf); first | refine brT ?_ | refine brF ?_)); conv => whnf)
          refine ⟨rfl, ?_⟩
          ((repeat ((conv => whnf); first | refine brT ?_ | refine brF ?_)); conv => whnf)
          rw [show (fun v => ((gridP N Q).map lineOw).set a (setP (lineOw (lineP N Q a)) [] v)) (LV.own 4 1 ((lineP N Q a).map bLV)) = (gridP N Q).map lineOw from lines_same]
          refine ⟨lines_len.symm, lineOw (lineP N Q k), lineOw (lineP N Q k), lines_get hlt, rfl, ?_⟩
          ((repeat ((conv => whnf); first | refine brT ?_ | refine brF ?_)); conv => whnf)
          refine ⟨rfl, rfl, b, rfl, by rw [cells_len]; exact hbl, ?_⟩
          ((repeat ((conv => whnf); first | refine brT ?_ | refine brF ?_)); conv => whnf)
          refine ⟨rfl, by simp, _, by simp only [getP]; rw [cell_get hbl], rfl, ?_⟩
          ((repeat ((conv => whnf); first | refine brT ?_ | refine brF ?_)); conv => whnf)
          (refine ⟨fun h5 => ?_, fun h5 => ?_⟩ <;> rw [h5])
          · ((repeat ((conv => whnf); first | refine brT ?_ | refine brF ?_)); conv => whnf)
            have eq : stepCell k a b Q = putP Q a b true := by simp only [stepCell, h4, h5]; rfl
            refine ⟨by simp [gridP_len], rfl, a, rfl, by simp [gridP_len]; exact hal, ?_⟩
            ((repeat ((conv => whnf); first | refine brT ?_ | refine brF ?_)); conv => whnf)
            refine .inr ?_
            ((repeat ((conv => whnf); first | refine brT ?_ | refine brF ?_)); conv => whnf)
            refine ⟨rfl, ?_⟩
            ((repeat ((conv => whnf); first | refine brT ?_ | refine brF ?_)); conv => whnf)
            rw [show (fun v => ((gridP N Q).map lineOw).set k (setP (lineOw (lineP N Q k)) [] v)) (LV.own 4 1 ((lineP N Q k).map bLV)) = (gridP N Q).map lineOw from lines_same]
            refine ⟨lines_len.symm, lineOw (lineP N Q a), lineOw (lineP N Q a), lines_get hal, rfl, ?_⟩
            ((repeat ((conv => whnf); first | refine brT ?_ | refine brF ?_)); conv => whnf)
            refine ⟨rfl, rfl, b, rfl, by rw [cells_len]; exact hbl, ?_⟩
            ((repeat ((conv => whnf); first | refine brT ?_ | refine brF ?_)); conv => whnf)
            refine ⟨rfl, b, [], .bool (Q a b), rfl, by simp only [getP]; rw [cell_get hbl], rfl, rfl, rfl, (lineP N (putP Q a b true) a).map bLV, by rw [cell_get hbl]; exact cells_put, ?_⟩
            ((repeat ((conv => whnf); first | refine brT ?_ | refine brF ?_)); conv => whnf)
            refine round_endR [.old 0, .old 1, .old 2] (b + 1) hbl (by omega) ⟨?_, ⟨by rw [cells_len, cells_len], rfl, rfl, rfl, rfl, rfl, congrArg (Blk.tree 139 1) (by rw [eb, eq]; exact lines_put), trivial⟩, rfl⟩
            ((repeat ((conv => whnf); first | refine ⟨rfl, e3, ?_⟩ | refine ⟨rfl, rfl, ?_⟩)); trivial)
          · ((repeat ((conv => whnf); first | refine brT ?_ | refine brF ?_)); conv => whnf)
            have eq : stepCell k a b Q = Q := by simp only [stepCell, h4, h5]; rfl
            refine round_endR [.old 0, .old 1, .old 2] (b + 1) hbl (by omega) ⟨?_, ⟨rfl, rfl, rfl, rfl, rfl, rfl, congrArg (Blk.tree 139 1) (by rw [eb, eq]; exact lines_same), trivial⟩, rfl⟩
            ((repeat ((conv => whnf); first | refine ⟨rfl, e3, ?_⟩ | refine ⟨rfl, rfl, ?_⟩)); trivial)
        · ((repeat ((conv => whnf); first | refine brT ?_ | refine brF ?_)); conv => whnf)
          have eq : stepCell k a b Q = Q := by simp only [stepCell, h4]; rfl
          refine round_endR [.old 0, .old 1, .old 2] (b + 1) hbl (by omega) ⟨?_, ⟨rfl, rfl, rfl, rfl, rfl, rfl, congrArg (Blk.tree 139 1) (by rw [eb, eq]; exact lines_same), trivial⟩, rfl⟩
          ((repeat ((conv => whnf); first | refine ⟨rfl, e3, ?_⟩ | refine ⟨rfl, rfl, ?_⟩)); trivial)
      · have hbl : b = N := by rw [ltI_f, lines_len] at h3; omega
        subst hbl
        subst hK2
        ((repeat ((conv => whnf); first | refine brT ?_ | refine brF ?_)); conv => whnf)
        refine round_endR [.old 0, .old 1, .old 2] (a + 1) hal (by omega) ⟨?_, ⟨rfl, rfl, rfl, rfl, rfl, congrArg (fun P => Blk.tree 139 1 ((gridP b P).map lineOw)) ea.symm, trivial⟩, rfl⟩
        ((repeat ((conv => whnf); first | refine ⟨rfl, e2, ?_⟩ | refine ⟨rfl, rfl, ?_⟩)); trivial)
    · have hal : a = N := by rw [ltI_f, lines_len] at h2; omega
      subst hal
      subst hK1
      ((repeat ((conv => whnf); first | refine brT ?_ | refine brF ?_)); conv => whnf)
      refine round_endR [.old 0, .old 1, .old 2] (k + 1) hlt (by omega) ⟨?_, ⟨rfl, rfl, rfl, rfl, rfl, congrArg (fun P => Blk.tree 139 1 ((gridP a P).map lineOw)) en.symm, trivial⟩, rfl⟩
      ((repeat ((conv => whnf); first | refine ⟨rfl, e1, ?_⟩ | refine ⟨rfl, rfl, ?_⟩)); trivial)
  · have h3 : k = N := by rw [ltI_f, lines_len] at h1; omega
    subst h3
    subst hK0
    ((repeat ((conv => whnf); first | refine brT ?_ | refine brF ?_)); conv => whnf)
    have hR := l2Of_P k (iter (roundC k) k P) hN
    rw [relRows_ext (closC k P k (Nat.le_refl _))] at hR
    refine ⟨[], _, _, _, _, hR, rfl, ?_⟩
    ((repeat ((conv => whnf); first | refine brT ?_ | refine brF ?_)); conv => whnf)
    refine ⟨lines_len.symm, _, dms_lines _, ?_⟩
    ((repeat ((conv => whnf); first | refine brT ?_ | refine brF ?_)); conv => whnf)
    refine ⟨rfl, rfl, ⟨rfl, flatTs_rows _, trivial⟩, ?_⟩
    ((repeat ((conv => whnf); first | refine brT ?_ | refine brF ?_)); conv => whnf)
    refine ⟨[relHS k 0 ((relRows k (closP k P)).map rowOw).length], rfl, rfl, .inr ⟨[.old 3], ⟨rfl, rfl, trivial⟩, ⟨rfl, rfl, trivial⟩, rfl⟩⟩
end Go.Proofs.Ytfdjeflnjciloaa
