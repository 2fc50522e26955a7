/- Contracts of functions of the program and of its model, told over readings. -/
import Derived.Test.YtdhmnojnkgmmnaaAWGB
import Derived.Test.YtdhmnojnkgmmnaaALgMF
import Derived.Test.YtdhmnojnkgmmnaaAWGA
namespace Go.Proofs.Ytdhmnojnkgmmnaa
open Go.Lg
set_option maxHeartbeats 1600000
set_option maxRecDepth 10000
set_option linter.unusedVariables false
set_option linter.unusedSimpArgs false

/-! ### Tables and sets of one predicate -/
def gridP (n : Nat) (P : Nat → Nat → Bool) : List (List Bool) := (List.range n).map fun a => (List.range n).map fun b => P a b
def lineP (n : Nat) (P : Nat → Nat → Bool) (a : Nat) : List Bool := (List.range n).map fun b => P a b
/-- One place set. -/
def putP (P : Nat → Nat → Bool) (a b : Nat) (v : Bool) : Nat → Nat → Bool := fun x y => if x = a ∧ y = b then v else P x y
theorem gridP_len (n : Nat) (P : Nat → Nat → Bool) : (gridP n P).length = n := by simp [gridP]
theorem lineP_len (n : Nat) (P : Nat → Nat → Bool) (a : Nat) : (lineP n P a).length = n := by simp [lineP]
theorem gridP_get {n a : Nat} {P : Nat → Nat → Bool} (h : a < n) : (gridP n P)[a]? = some (lineP n P a) := by simp [gridP, lineP, h]
theorem lineP_get {n a b : Nat} {P : Nat → Nat → Bool} (h : b < n) : (lineP n P a)[b]? = some (P a b) := by simp [lineP, h]
theorem lineP_put {n a b : Nat} {P : Nat → Nat → Bool} {v : Bool} : (lineP n P a).set b v = lineP n (putP P a b v) a := by
  apply List.ext_getElem
  · simp [lineP]
  · intro y h1 h2
    rw [List.getElem_set]
    simp only [lineP, List.getElem_map, List.getElem_range, putP]
    by_cases e : b = y
    · subst e; simp
    · have : ¬ y = b := fun h => e h.symm
      simp [e, this]
theorem gridP_put {n a b : Nat} {P : Nat → Nat → Bool} {v : Bool} : (gridP n P).set a (lineP n (putP P a b v) a) = gridP n (putP P a b v) := by
  apply List.ext_getElem
  · simp [gridP]
  · intro x h1 h2
    rw [List.getElem_set]
    simp only [gridP, List.getElem_map, List.getElem_range]
    by_cases e : a = x
    · subst e; simp [lineP]
    · have : ¬ x = a := fun h => e h.symm
      simp [e, putP, this]
theorem gridP_ext {n : Nat} {P Q : Nat → Nat → Bool} (h : ∀ a, a < n → ∀ b, b < n → P a b = Q a b) : gridP n P = gridP n Q := by
  unfold gridP
  apply List.map_congr_left
  intro a ha
  apply List.map_congr_left
  intro b hb
  exact h a (by simpa using ha) b (by simpa using hb)
theorem relRows_ext {n : Nat} {P Q : Nat → Nat → Bool} (h : ∀ a, a < n → ∀ b, b < n → P a b = Q a b) : relRows n P = relRows n Q := by
  unfold relRows
  apply List.map_congr_left
  intro a ha
  congr 1
  apply List.filter_congr
  intro b hb
  exact h a (by simpa using ha) b (by simpa using hb)
theorem gridP_rows (n : Nat) (P : Nat → Nat → Bool) : (gridP n P).map lineN = relRows n P := by
  unfold gridP relRows
  rw [List.map_map]
  apply List.map_congr_left
  intro a ha
  simp only [Function.comp_apply, lineN, lineTo, List.length_map, List.length_range]
  congr 1
  apply List.filter_congr
  intro b hb
  have hb : b < n := by simpa using hb
  simp [List.getD_eq_getElem?_getD, hb]
theorem blank_gridP (n : Nat) : blank n n = gridP n (fun _ _ => false) := by
  unfold blank gridP
  apply List.ext_getElem
  · simp
  · intro a h1 h2
    simp only [List.getElem_map, List.getElem_range, List.getElem_replicate]
    apply List.ext_getElem
    · simp
    · intro b h3 h4
      simp

/-! ### Sets -/
def bitsP : Nat → (Nat → Bool) → Nat
  | 0, _ => 0
  | n + 1, p => bitsP n p ||| (if p n then 2 ^ n else 0)
theorem bitsP_bit (p : Nat → Bool) : ∀ (n i : Nat), (bitsP n p).testBit i = (decide (i < n) && p i)
  | 0, i => by simp [bitsP]
  | n + 1, i => by
    simp only [bitsP]
    rw [Nat.testBit_or, bitsP_bit p n i]
    by_cases e : i = n
    · subst e
      cases h : p i <;> simp [Nat.testBit_two_pow]
    · have h2 : decide (i < n + 1) = decide (i < n) := by rw [decide_eq_decide]; omega
      rw [h2]
      cases h : p n
      · simp
      · have : ¬ n = i := fun h => e h.symm
        simp [Nat.testBit_two_pow, this]
theorem bitsP_lt (p : Nat → Bool) : ∀ n, bitsP n p < 2 ^ n
  | 0 => by simp [bitsP]
  | n + 1 => by
    simp only [bitsP]
    have h := bitsP_lt p n
    have h2 : 2 ^ n < 2 ^ (n + 1) := Nat.pow_lt_pow_right (by omega) (by omega)
    refine Nat.or_lt_two_pow (by omega) ?_
    split <;> omega
theorem bitsP_64 {n : Nat} (p : Nat → Bool) (h : n ≤ 64) : bitsP n p < 2 ^ 64 := Nat.lt_of_lt_of_le (bitsP_lt p n) (Nat.pow_le_pow_right (by omega) h)
def setsP (n : Nat) (P : Nat → Nat → Bool) : List Nat := (List.range n).map fun a => bitsP n (P a)
theorem setsP_len (n : Nat) (P : Nat → Nat → Bool) : (setsP n P).length = n := by simp [setsP]
theorem setsP_get {n a : Nat} {P : Nat → Nat → Bool} (h : a < n) : (setsP n P)[a]? = some (bitsP n (P a)) := by simp [setsP, h]
theorem setsP_lt {n : Nat} {P : Nat → Nat → Bool} (h : n ≤ 64) : ∀ s ∈ setsP n P, s < 2 ^ 64 := by
  intro s hs
  unfold setsP at hs
  obtain ⟨a, _, rfl⟩ := List.mem_map.1 hs
  exact bitsP_64 _ h
/-- One row set. -/
def rowP (P : Nat → Nat → Bool) (a : Nat) (p : Nat → Bool) : Nat → Nat → Bool := fun x y => if x = a then p y else P x y
theorem setsP_set {n a : Nat} {P : Nat → Nat → Bool} {p : Nat → Bool} {s : Nat} (h : s = bitsP n p) : (setsP n P).set a s = setsP n (rowP P a p) := by
  subst h
  apply List.ext_getElem
  · simp [setsP]
  · intro x h1 h2
    rw [List.getElem_set]
    simp only [setsP, List.getElem_map, List.getElem_range]
    by_cases e : a = x
    · subst e
      rw [if_pos rfl]
      congr 1
      funext y
      simp [rowP]
    · have : ¬ x = a := fun h => e h.symm
      rw [if_neg e]
      congr 1
      funext y
      simp [rowP, this]
theorem bits_ext {n s : Nat} {p : Nat → Bool} (h : ∀ i, s.testBit i = (decide (i < n) && p i)) : s = bitsP n p := by
  apply Nat.eq_of_testBit_eq
  intro i
  rw [h, bitsP_bit]
theorem bitsP_or {n : Nat} {p q : Nat → Bool} : bitsP n p ||| bitsP n q = bitsP n fun y => p y || q y :=
  bits_ext fun i => by rw [Nat.testBit_or, bitsP_bit, bitsP_bit]; cases decide (i < n) <;> simp
theorem bitsP_and {n : Nat} {p q : Nat → Bool} : bitsP n p &&& bitsP n q = bitsP n fun y => p y && q y :=
  bits_ext fun i => by rw [Nat.testBit_and, bitsP_bit, bitsP_bit]; cases decide (i < n) <;> simp
theorem bitsP_less {n : Nat} {p q : Nat → Bool} (hn : n ≤ 64) : lessN (bitsP n p) (bitsP n q) = bitsP n fun y => p y && !q y := by
  refine bits_ext fun i => ?_
  by_cases hi : i < 64
  · rw [lessN_bit (bitsP_64 p hn) hi, bitsP_bit, bitsP_bit]
    cases decide (i < n) <;> simp
  · rw [Nat.testBit_lt_two_pow (Nat.lt_of_lt_of_le (lessN_lt _ _) (Nat.pow_le_pow_right (by omega) (by omega : 64 ≤ i)))]
    have : ¬ i < n := by omega
    simp [this]
theorem bitsP_add {n b : Nat} {p : Nat → Bool} (hb : b < n) : bitsP n p ||| 2 ^ b = bitsP n fun y => if y = b then true else p y :=
  bits_ext fun i => by
    rw [Nat.testBit_or, bitsP_bit, Nat.testBit_two_pow]
    by_cases e : i = b
    · subst e; simp [hb]
    · have : ¬ b = i := fun h => e h.symm
      simp [e, this]
theorem setsP_add {n a b : Nat} {P : Nat → Nat → Bool} (hb : b < n) : (setsP n P).set a (bitsP n (P a) ||| 2 ^ b) = setsP n (putP P a b true) := by
  rw [setsP_set (p := fun y => if y = b then true else P a y) (bitsP_add hb)]
  congr 1
  funext x y
  simp only [rowP, putP]
  by_cases e : x = a
  · subst e; simp
  · simp [e]
theorem setsP_rows {n : Nat} {P : Nat → Nat → Bool} (hn : n ≤ 40) : (setsP n P).map listN = relRows n P := by
  refine rows_of_sets (setsP_len n P) hn fun a ha b hb => ?_
  simp only [setsP, List.getElem_map, List.getElem_range]
  exact bitsP_bit _ _ _
theorem setsP_zero (n : Nat) : List.replicate n 0 = setsP n (fun _ _ => false) := by
  unfold setsP
  apply List.ext_getElem
  · simp
  · intro a h1 h2
    simp only [List.getElem_replicate, List.getElem_map]
    exact bits_ext fun i => by simp

/-- What valid rows say. -/
def relP (rows : List (List Int)) (a b : Nat) : Bool := decide ((b : Int) ∈ rows.getD a [])
theorem gridL_P (rows : List (List Int)) : gridL rows = gridP rows.length (relP rows) := by
  unfold gridL gridTo gridP
  apply List.map_congr_left
  intro a ha
  have ha : a < rows.length := by simpa using ha
  apply List.map_congr_left
  intro b hb
  rw [gLine_at ha (by simpa using hb)]
  simp [relP, List.getD_eq_getElem?_getD, ha]
theorem sets_P {n : Int} {rows : List (List Int)} (hr : RelIn n rows) : rows.map setN = setsP rows.length (relP rows) := by
  apply List.ext_getElem
  · simp [setsP]
  · intro a h1 h2
    have ha : a < rows.length := by simpa using h1
    simp only [List.getElem_map, setsP, List.getElem_range]
    refine bits_ext fun i => ?_
    have hin : inSize rows[a] := fun b hb => by have := hr.mem (List.getElem_mem ha) hb; omega
    rw [setN_bit hin]
    have hl := hr.len
    have : rows.getD a [] = rows[a] := by simp [List.getD_eq_getElem?_getD, ha]
    simp only [relP, this]
    by_cases hm : (i : Int) ∈ rows[a]
    · have := (hr.mem (List.getElem_mem ha) hm).2.1
      have hi : i < rows.length := by omega
      simp [hm, hi]
    · simp [hm]
/-- Valid rows are the rows of what they say. -/
theorem sorted_ext : ∀ {r s : List Int} {n : Int} {last : Int}, rowFrom n last r = true → rowFrom n last s = true → (∀ x, x ∈ r ↔ x ∈ s) → r = s
  | [], [], _, _, _, _, _ => rfl
  | [], y :: ys, _, _, _, _, h => by have := (h y).2 (by simp); simp at this
  | x :: xs, [], _, _, _, _, h => by have := (h x).1 (by simp); simp at this
  | x :: xs, y :: ys, n, last, h1, h2, h => by
    obtain ⟨a1, a2, a3⟩ := rowFrom_cons h1
    obtain ⟨b1, b2, b3⟩ := rowFrom_cons h2
    have hxy : x = y := by
      have hx := (h x).1 (by simp)
      have hy := (h y).2 (by simp)
      rcases List.mem_cons.1 hx with e | hx
      · exact e
      · rcases List.mem_cons.1 hy with e | hy
        · exact e.symm
        · have := (rowFrom_mem b3 x hx).1
          have := (rowFrom_mem a3 y hy).1
          omega
    subst hxy
    congr 1
    refine sorted_ext a3 b3 fun z => ?_
    constructor
    · intro hz
      rcases List.mem_cons.1 ((h z).1 (by simp [hz])) with e | hz'
      · have := (rowFrom_mem a3 z hz).1; omega
      · exact hz'
    · intro hz
      rcases List.mem_cons.1 ((h z).2 (by simp [hz])) with e | hz'
      · have := (rowFrom_mem b3 z hz).1; omega
      · exact hz'
theorem rowFrom_filter {n : Nat} {p : Nat → Bool} : ∀ (k : Nat) (m : Nat) (last : Int), k + m = n → last < k → rowFrom n last (List.map (fun i : Nat => (i : Int)) (List.filter p (List.range' k m))) = true
  | k, 0, last, _, _ => by simp [rowFrom]
  | k, m + 1, last, h, hl => by
    rw [List.range'_succ]
    simp only [List.filter_cons]
    split
    · simp only [List.map_cons, rowFrom]
      rw [show leI (k : Int) last = false by rw [leI_f]; omega, show leI (n : Int) (k : Int) = false by rw [leI_f]; omega]
      exact rowFrom_filter (k + 1) m k (by omega) (by omega)
    · exact rowFrom_filter (k + 1) m last (by omega) (by omega)
theorem relRows_in {n : Nat} {P : Nat → Nat → Bool} (hn : n ≤ 40) : RelIn n (relRows n P) := by
  refine ⟨by omega, by omega, by rw [relRows_len], fun r hr => ?_⟩
  unfold relRows at hr
  obtain ⟨a, _, rfl⟩ := List.mem_map.1 hr
  rw [List.range_eq_range']
  exact rowFrom_filter 0 n (-1) (by omega) (by omega)
theorem relRows_mem {n a b : Nat} {P : Nat → Nat → Bool} (ha : a < n) : (b : Int) ∈ (relRows n P).getD a [] ↔ b < n ∧ P a b = true := by
  have : (relRows n P).getD a [] = List.map (fun i : Nat => (i : Int)) (List.filter (fun b : Nat => P a b) (List.range n)) := by
    simp [relRows, List.getD_eq_getElem?_getD, ha]
  rw [this]
  simp only [List.mem_map, List.mem_filter, List.mem_range]
  constructor
  · rintro ⟨i, h, e⟩
    have : i = b := by omega
    subst this; exact h
  · intro h; exact ⟨b, h, rfl⟩
theorem relP_relRows {n : Nat} {P : Nat → Nat → Bool} {a b : Nat} (ha : a < n) (hb : b < n) : relP (relRows n P) a b = P a b := by
  unfold relP
  cases h : P a b
  · rw [decide_eq_false_iff_not, relRows_mem ha]; simp [h]
  · rw [decide_eq_true_iff, relRows_mem ha]; exact ⟨hb, h⟩
theorem rows_eq {n : Nat} {rows : List (List Int)} (hr : RelIn n rows) : rows = relRows n (relP rows) := by
  have hl := hr.len
  have hh := hr.hi
  apply List.ext_getElem
  · rw [relRows_len]; omega
  · intro a h1 h2
    have ha : a < n := by omega
    have hq := relRows_in (n := n) (P := relP rows) (by omega)
    refine sorted_ext (hr.row _ (List.getElem_mem h1)) (hq.row _ (List.getElem_mem h2)) fun x => ?_
    have e1 : rows.getD a [] = rows[a] := by simp [List.getD_eq_getElem?_getD, h1]
    have e2 : (relRows n (relP rows)).getD a [] = (relRows n (relP rows))[a] := by simp [List.getD_eq_getElem?_getD, h2]
    constructor
    · intro hx
      obtain ⟨x0, x1, _⟩ := hr.mem (List.getElem_mem h1) hx
      obtain ⟨y, rfl⟩ : ∃ y : Nat, x = (y : Int) := ⟨x.toNat, by omega⟩
      rw [← e2, relRows_mem ha]
      exact ⟨by omega, by unfold relP; rw [e1]; simpa using hx⟩
    · intro hx
      obtain ⟨x0, x1, _⟩ := hq.mem (List.getElem_mem h2) hx
      obtain ⟨y, rfl⟩ : ∃ y : Nat, x = (y : Int) := ⟨x.toNat, by omega⟩
      rw [← e2, relRows_mem ha] at hx
      have := hx.2
      unfold relP at this
      rw [e1] at this
      simpa using this

/-! ### Rounds -/
def iter {σ : Type} (f : Nat → σ → σ) : Nat → σ → σ
  | 0, s => s
  | k + 1, s => f k (iter f k s)
end Go.Proofs.Ytdhmnojnkgmmnaa

namespace Go.Proofs.Ytdhmnojnkgmmnaa
open Go.Lg
set_option maxHeartbeats 1600000
set_option maxRecDepth 10000
set_option linter.unusedVariables false
set_option linter.unusedSimpArgs false

theorem RelIn.size {n : Int} {rows : List (List Int)} (h : RelIn n rows) : rows.length ≤ 40 := by have := h.len; have := h.hi; omega
theorem RelIn.ins {n : Int} {rows : List (List Int)} (h : RelIn n rows) : ∀ r ∈ rows, inSize r ∧ r.length ≤ Go.maxLen := fun r hr =>
  ⟨fun b hb => by have := h.mem hr hb; omega, by have := h.rlen hr; unfold Go.maxLen; omega⟩
theorem alike_in {n : Int} {rows : List (List Int)} {m : Int} {rows' : List (List Int)} (h : alike n rows m rows' = true) : RelIn n rows ∧ RelIn n rows' ∧ n = m ∧ rows'.length = rows.length := by
  unfold alike at h
  simp only [Bool.and_eq_true, eqI_t] at h
  obtain ⟨⟨rfl, h1⟩, h2⟩ := h
  have a := relIn_of h1
  have b := relIn_of h2
  exact ⟨a, b, rfl, by have := a.len; have := b.len; omega⟩

/-- What is combined, row by row. -/
def mixP (f : Bool → Bool → Bool) (P Q : Nat → Nat → Bool) (k : Nat) : Nat → Nat → Bool := fun a b => if a < k then f (P a b) (Q a b) else P a b
def allP (f : Bool → Bool → Bool) (P Q : Nat → Nat → Bool) : Nat → Nat → Bool := fun a b => f (P a b) (Q a b)
theorem mixP_set {f : Bool → Bool → Bool} {P Q : Nat → Nat → Bool} {n k : Nat} : (setsP n (mixP f P Q k)).set k (bitsP n fun b => f (P k b) (Q k b)) = setsP n (mixP f P Q (k + 1)) := by
  rw [setsP_set rfl]
  congr 1
  funext a b
  simp only [rowP, mixP]
  by_cases e : a = k
  · subst e; simp
  · rw [if_neg e]
    have : (a < k + 1) ↔ a < k := by omega
    simp only [this]
theorem mixP_row {f : Bool → Bool → Bool} {P Q : Nat → Nat → Bool} {k : Nat} : mixP f P Q k k = P k := by funext b; simp [mixP]
theorem mixP_zero {f : Bool → Bool → Bool} {P Q : Nat → Nat → Bool} : mixP f P Q 0 = P := by funext a b; simp [mixP]
theorem mixP_all {f : Bool → Bool → Bool} {P Q : Nat → Nat → Bool} {n : Nat} : relRows n (mixP f P Q n) = relRows n (allP f P Q) := relRows_ext fun a ha b _ => by simp [mixP, allP, ha]

/-- How many rows the result has. -/
def rsN (ok : Bool) (rows : List (List Int)) : Nat := match ok with | true => rows.length | false => 0
theorem relRows_zero (P : Nat → Nat → Bool) : relRows 0 P = [] := rfl

end Go.Proofs.Ytdhmnojnkgmmnaa
namespace Go.Proofs.Ytdhmnojnkgmmnaa
open Go.Lg
set_option maxHeartbeats 1600000
set_option maxRecDepth 10000
set_option linter.unusedVariables false
set_option linter.unusedSimpArgs false

theorem add_elem (N : Nat) (P : Nat → Nat → Bool) (a b : Nat) (ha : a < N) (hb : b < N) (hN : N ≤ 40) (n : Nat) (hn : n = ((setsP N P).map uLV).length) :
    HSpec env.P 124 [.hp 0 n [a], .int .i64 (b : Int)] [.arr 121 1 ((setsP N P).map uLV)] (.tup []) [.arr 121 1 ((setsP N (putP P a b true)).map uLV)] := by
  subst hn
  have g1 : ((setsP N P).map uLV)[a]? = some (uLV (bitsP N (P a))) := by rw [List.getElem?_map, setsP_get ha]; rfl
  refine HSpec_of_code (E := env.x [] 1) env_ok.x (fn := Try.f124) Try.func124 rfl Try.call124 _ _ _ _ ?_
  ((repeat ((conv => whnf); first | refine brT ?_ | refine brF ?_)); conv => whnf)
  refine ⟨true, by kernel_rfl, ?_⟩
  ((repeat ((conv => whnf); first | refine brT ?_ | refine brF ?_)); conv => whnf)
  refine ⟨rfl, by simp, _, by simp only [getP]; rw [g1], rfl, ?_⟩
  ((repeat ((conv => whnf); first | refine brT ?_ | refine brF ?_)); conv => whnf)
  refine ⟨by omega, ?_⟩
  ((repeat ((conv => whnf); first | refine brT ?_ | refine brF ?_)); conv => whnf)
  have e : LV.int .u64 (Go.Lg.orI .u64 ((bitsP N (P a) : Nat) : Int) (shlI .u64 1 (b : Int))) = uLV (bitsP N (P a) ||| 2 ^ b) := by
    rw [shlI_one (by omega) (by omega), orI_nat (bitsP_64 _ (by omega)) (two_lt (by omega))]; rfl
  have e2 : ((setsP N P).map uLV).set a (uLV (bitsP N (P a) ||| 2 ^ b)) = (setsP N (putP P a b true)).map uLV := by rw [← setsP_add hb, List.map_set]
  refine ⟨rfl, a, [], uLV (bitsP N (P a)), rfl, by simp only [getP]; rw [g1], rfl, rfl, rfl, (setsP N (putP P a b true)).map uLV, by rw [g1]; show List.set _ _ (LV.int _ _) = _; rw [e]; exact e2, ?_⟩
  ((repeat ((conv => whnf); first | refine brT ?_ | refine brF ?_)); conv => whnf)
  exact ⟨[], rfl, rfl, .inl ⟨trivial, ⟨rfl, trivial⟩, rfl, rfl⟩⟩
def idP (k : Nat) : Nat → Nat → Bool := fun a b => decide (a = b ∧ a < k)
theorem idP_put (k : Nat) : putP (idP k) k k true = idP (k + 1) := by
  funext a b
  simp only [putP, idP]
  by_cases e : a = k ∧ b = k
  · obtain ⟨rfl, rfl⟩ := e; simp
  · rw [if_neg e, decide_eq_decide]
    constructor
    · rintro ⟨rfl, h⟩; exact ⟨rfl, by omega⟩
    · rintro ⟨rfl, h⟩; exact ⟨rfl, by omega⟩
theorem idP_zero : idP 0 = fun _ _ => false := by funext a b; simp [idP]
def sizN (n : Int) : Nat := empN n
theorem gAt_succ {rows : List (List Int)} {k i b : Nat} (hk : k < rows.length) (hi : i < rows[k].length) (hb : rows[k][i] = (b : Int)) (x y : Nat) : gAt rows k (i + 1) x y = if x = k ∧ y = b then true else gAt rows k i x y := by
  have hg : rows.getD k [] = rows[k] := by simp [List.getD_eq_getElem?_getD, hk]
  unfold gAt
  rw [hg, List.take_succ_eq_append_getElem hi, List.getD_eq_getElem?_getD]
  simp only [List.mem_append, List.mem_singleton, hb]
  by_cases e : x = k ∧ y = b
  · obtain ⟨rfl, rfl⟩ := e; simp
  · rw [if_neg e, decide_eq_decide]
    have : ¬ (x = k ∧ (y : Int) = (b : Int)) := fun h => e ⟨h.1, by omega⟩
    constructor
    · rintro (h | ⟨h1, h2 | h2⟩)
      · exact .inl h
      · exact .inr ⟨h1, h2⟩
      · exact absurd ⟨h1, h2⟩ this
    · rintro (h | ⟨h1, h2⟩)
      · exact .inl h
      · exact .inr ⟨h1, .inl h2⟩
theorem gAt_row {rows : List (List Int)} {k : Nat} (hk : k < rows.length) (x y : Nat) : gAt rows k rows[k].length x y = gAt rows (k + 1) 0 x y := by
  have hg : rows.getD k [] = rows[k] := by simp [List.getD_eq_getElem?_getD, hk]
  unfold gAt
  rw [hg, List.take_length, decide_eq_decide]
  constructor
  · rintro (⟨h1, h2⟩ | ⟨h1, h2⟩)
    · exact .inl ⟨by omega, h2⟩
    · subst h1; exact .inl ⟨by omega, by rw [hg]; exact h2⟩
  · rintro (⟨h1, h2⟩ | ⟨h1, h2⟩)
    · by_cases e : x = k
      · subst e; rw [hg] at h2; exact .inr ⟨rfl, h2⟩
      · exact .inl ⟨by omega, h2⟩
    · simp at h2
theorem gAt_zero (rows : List (List Int)) (x y : Nat) : gAt rows 0 0 x y = false := by simp [gAt]
theorem gAt_all {rows : List (List Int)} {x : Nat} (hx : x < rows.length) (y : Nat) : gAt rows rows.length 0 x y = relP rows x y := by
  unfold gAt relP
  rw [decide_eq_decide]
  simp [hx]
/-- Turned round: what has been set when k rows are done, and i numbers of the next. -/
def cvP (rows : List (List Int)) (k i : Nat) : Nat → Nat → Bool := fun x y => gAt rows k i y x
def convP (rows : List (List Int)) : Nat → Nat → Bool := fun x y => relP rows y x
theorem cvP_put {rows : List (List Int)} {k i b : Nat} (hk : k < rows.length) (hi : i < rows[k].length) (hb : rows[k][i] = (b : Int)) : putP (cvP rows k i) b k true = cvP rows k (i + 1) := by
  funext x y
  simp only [putP, cvP]
  rw [gAt_succ hk hi hb]
  simp only [and_comm]
theorem cvP_row {rows : List (List Int)} {k : Nat} (hk : k < rows.length) : cvP rows k rows[k].length = cvP rows (k + 1) 0 := by funext x y; exact gAt_row hk y x
theorem cvP_zero (rows : List (List Int)) : cvP rows 0 0 = fun _ _ => false := by funext x y; exact gAt_zero rows y x
theorem cvP_all (rows : List (List Int)) : relRows rows.length (cvP rows rows.length 0) = relRows rows.length (convP rows) := relRows_ext fun a _ b hb => gAt_all hb a

end Go.Proofs.Ytdhmnojnkgmmnaa
namespace Go.Proofs.Ytdhmnojnkgmmnaa
open Go.Lg
set_option maxHeartbeats 1600000
set_option maxRecDepth 10000
set_option linter.unusedVariables false
set_option linter.unusedSimpArgs false

/-! ### The closure, by rows and place by place -/
def stepRow (k a : Nat) (P : Nat → Nat → Bool) : Nat → Nat → Bool := match P a k with | true => rowP P a (fun y => P a y || P k y) | false => P
def stepCell (k a b : Nat) (P : Nat → Nat → Bool) : Nat → Nat → Bool := match P a k && P k b with | true => putP P a b true | false => P
def roundR (N k : Nat) (P : Nat → Nat → Bool) : Nat → Nat → Bool := iter (stepRow k) N P
def roundC (N k : Nat) (P : Nat → Nat → Bool) : Nat → Nat → Bool := iter (fun a P => iter (stepCell k a) N P) N P
def viaP (k : Nat) (P : Nat → Nat → Bool) : Nat → Nat → Bool := fun a b => P a b || (P a k && P k b)
def closP (N : Nat) (P : Nat → Nat → Bool) : Nat → Nat → Bool := iter viaP N P

theorem iter_row (k : Nat) (P : Nat → Nat → Bool) : ∀ i, iter (stepRow k) i P = fun a b => if a < i then viaP k P a b else P a b
  | 0 => by funext a b; simp [iter]
  | i + 1 => by
    simp only [iter]
    rw [iter_row k P i]
    have hik : (if i < i then viaP k P i k else P i k) = P i k := by simp
    have hk : ∀ b, (if k < i then (P k b || (P k k && P k b)) else P k b) = P k b := fun b => by split <;> cases P k b <;> simp
    funext a b
    simp only [stepRow, hik]
    cases h : P i k
    · simp only []
      by_cases e : a = i
      · subst e; simp [viaP, h]
      · have : (a < i + 1) ↔ a < i := by omega
        simp only [this]
    · simp only [rowP]
      by_cases e : a = i
      · subst e; simp [viaP, h, hk]
      · have : (a < i + 1) ↔ a < i := by omega
        rw [if_neg e]
        simp only [this]
theorem stepCell_of {k a b : Nat} {P' P : Nat → Nat → Bool} (h1 : P' a k = P a k) (h2 : P' k b = P k b) : stepCell k a b P' = match P a k && P k b with | true => putP P' a b true | false => P' := by
  unfold stepCell; rw [h1, h2]
theorem iter_cell (k a : Nat) (P : Nat → Nat → Bool) : ∀ i, iter (stepCell k a) i P = fun x y => if x = a ∧ y < i then viaP k P x y else P x y
  | 0 => by funext x y; simp [iter]
  | i + 1 => by
    simp only [iter]
    rw [iter_cell k a P i]
    rw [stepCell_of (P := P) (by split <;> simp only [viaP] <;> cases P a k <;> simp) (by simp)]
    funext x y
    cases h : (P a k && P k i)
    · show (if x = a ∧ y < i then viaP k P x y else P x y) = _
      by_cases e : x = a ∧ y = i
      · obtain ⟨rfl, rfl⟩ := e; simp [viaP, h]
      · have : (x = a ∧ y < i + 1) ↔ (x = a ∧ y < i) := by
          constructor
          · rintro ⟨h1, h2⟩; exact ⟨h1, by rcases Nat.lt_or_ge y i with h | h; exact h; exact absurd ⟨h1, by omega⟩ e⟩
          · rintro ⟨h1, h2⟩; exact ⟨h1, by omega⟩
        simp only [this]
    · show (if x = a ∧ y = i then true else (if x = a ∧ y < i then viaP k P x y else P x y)) = _
      by_cases e : x = a ∧ y = i
      · obtain ⟨rfl, rfl⟩ := e; simp [viaP, h]
      · have : (x = a ∧ y < i + 1) ↔ (x = a ∧ y < i) := by
          constructor
          · rintro ⟨h1, h2⟩; exact ⟨h1, by rcases Nat.lt_or_ge y i with h | h; exact h; exact absurd ⟨h1, by omega⟩ e⟩
          · rintro ⟨h1, h2⟩; exact ⟨h1, by omega⟩
        rw [if_neg e]
        simp only [this]
theorem iter_cells (k N : Nat) (P : Nat → Nat → Bool) (hk : k < N) : ∀ j, iter (fun a P => iter (stepCell k a) N P) j P = fun x y => if x < j ∧ y < N then viaP k P x y else P x y
  | 0 => by funext x y; simp [iter]
  | j + 1 => by
    simp only [iter]
    rw [iter_cells k N P hk j, iter_cell]
    funext x y
    by_cases e : x = j ∧ y < N
    · obtain ⟨rfl, hy⟩ := e
      rw [if_pos ⟨rfl, hy⟩, if_pos ⟨by omega, hy⟩]
      simp only [viaP]
      have h1 : (if x < x ∧ y < N then P x y || (P x k && P k y) else P x y) = P x y := by simp
      have h2 : (if x < x ∧ k < N then P x k || (P x k && P k k) else P x k) = P x k := by simp
      have h3 : (if k < x ∧ y < N then P k y || (P k k && P k y) else P k y) = P k y := by split <;> simp
      rw [h1, h2, h3]
    · rw [if_neg e]
      have : (x < j + 1 ∧ y < N) ↔ (x < j ∧ y < N) := by
        constructor
        · rintro ⟨h1, h2⟩; exact ⟨by rcases Nat.lt_or_ge x j with h | h; exact h; exact absurd ⟨by omega, h2⟩ e, h2⟩
        · rintro ⟨h1, h2⟩; exact ⟨by omega, h2⟩
      simp only [this]
def sameP (N : Nat) (P Q : Nat → Nat → Bool) : Prop := ∀ a, a < N → ∀ b, b < N → P a b = Q a b
theorem closR (N : Nat) (P : Nat → Nat → Bool) : ∀ k, k ≤ N → sameP N (iter (roundR N) k P) (iter viaP k P)
  | 0, _ => fun a _ b _ => rfl
  | k + 1, h => fun a ha b hb => by
    have ih := closR N P k (by omega)
    simp only [iter, roundR, iter_row, viaP]
    rw [if_pos ha, ih a ha b hb, ih a ha k (by omega), ih k (by omega) b hb]
theorem closC (N : Nat) (P : Nat → Nat → Bool) : ∀ k, k ≤ N → sameP N (iter (roundC N) k P) (iter viaP k P)
  | 0, _ => fun a _ b _ => rfl
  | k + 1, h => fun a ha b hb => by
    have ih := closC N P k (by omega)
    simp only [iter, roundC]
    rw [iter_cells k N _ (by omega)]
    simp only [viaP]
    rw [if_pos ⟨ha, hb⟩, ih a ha b hb, ih a ha k (by omega), ih k (by omega) b hb]

theorem bitsP_has {N k : Nat} {p : Nat → Bool} (hk : k < N) : hasN (bitsP N p) (k : Int) = p k := by
  unfold hasN
  rw [Int.toNat_natCast, bitsP_bit]; simp [hk]
theorem stepRow_sets {N k a : Nat} {P : Nat → Nat → Bool} (h : P a k = true) : (setsP N P).set a (bitsP N (P a) ||| bitsP N (P k)) = setsP N (stepRow k a P) := by
  rw [setsP_set bitsP_or]
  simp only [stepRow, h]

end Go.Proofs.Ytdhmnojnkgmmnaa
namespace Go.Proofs.Ytdhmnojnkgmmnaa
open Go.Lg
set_option maxHeartbeats 1600000
set_option maxRecDepth 10000
set_option linter.unusedVariables false
set_option linter.unusedSimpArgs false

/-! ### Composition -/
/-- What is reached from a set over the rows of Q. -/
def onP (N : Nat) (p : Nat → Bool) (Q : Nat → Nat → Bool) : Nat → Bool := fun c => decide (∃ b, b < N ∧ p b = true ∧ Q b c = true)
def compP (N : Nat) (P Q : Nat → Nat → Bool) : Nat → Nat → Bool := fun a c => onP N (P a) Q c
def inTake (r : List Int) (i : Nat) : Nat → Bool := fun b => decide ((b : Int) ∈ r.take i)
theorem onP_succ {N : Nat} {r : List Int} {i b : Nat} {Q : Nat → Nat → Bool} (hi : i < r.length) (hb : r[i] = (b : Int)) (hbN : b < N) : (fun c => onP N (inTake r i) Q c || Q b c) = onP N (inTake r (i + 1)) Q := by
  funext c
  unfold onP inTake
  rw [List.take_succ_eq_append_getElem hi]
  rw [Bool.eq_iff_iff]
  simp only [Bool.or_eq_true, decide_eq_true_eq, List.mem_append, List.mem_singleton, hb]
  constructor
  · rintro (⟨b', h1, h2, h3⟩ | h)
    · exact ⟨b', h1, .inl h2, h3⟩
    · exact ⟨b, hbN, .inr rfl, h⟩
  · rintro ⟨b', h1, h2 | h2, h3⟩
    · exact .inl ⟨b', h1, h2, h3⟩
    · have : b' = b := by omega
      subst this; exact .inr h3
theorem onP_zero {N : Nat} {r : List Int} {Q : Nat → Nat → Bool} : onP N (inTake r 0) Q = fun _ => false := by funext c; simp [onP, inTake]

theorem comp_rows {n : Int} {rows : List (List Int)} (hr : RelIn n rows) (Q : Nat → Nat → Bool) : (rows.map fun r => bitsP rows.length (onP rows.length (inTake r r.length) Q)) = setsP rows.length (compP rows.length (relP rows) Q) := by
  apply List.ext_getElem
  · simp [setsP]
  · intro a h1 h2
    have ha : a < rows.length := by simpa using h1
    simp only [List.getElem_map, setsP, List.getElem_range]
    congr 1
    funext c
    unfold compP onP inTake relP
    have : rows.getD a [] = rows[a] := by simp [List.getD_eq_getElem?_getD, ha]
    rw [this, List.take_length]

end Go.Proofs.Ytdhmnojnkgmmnaa
namespace Go.Proofs.Ytdhmnojnkgmmnaa
open Go.Lg
set_option maxHeartbeats 1600000
set_option maxRecDepth 10000
set_option linter.unusedVariables false
set_option linter.unusedSimpArgs false

theorem lines_get {N a : Nat} {P : Nat → Nat → Bool} (h : a < N) : ((gridP N P).map lineOw)[a]? = some (lineOw (lineP N P a)) := by rw [List.getElem?_map, gridP_get h]; rfl
theorem linesS_get {N a : Nat} {P : Nat → Nat → Bool} (h : a < N) : ((gridP N P).map lineSl)[a]? = some (lineSl (lineP N P a)) := by rw [List.getElem?_map, gridP_get h]; rfl
theorem cell_get {N a b : Nat} {P : Nat → Nat → Bool} (h : b < N) : ((lineP N P a).map bLV)[b]? = some (.bool (P a b)) := by rw [List.getElem?_map, lineP_get h]; rfl
theorem lines_len {N : Nat} {P : Nat → Nat → Bool} : ((gridP N P).map lineOw).length = N := by rw [List.length_map, gridP_len]
theorem linesS_len {N : Nat} {P : Nat → Nat → Bool} : ((gridP N P).map lineSl).length = N := by rw [List.length_map, gridP_len]
theorem cells_len {N a : Nat} {P : Nat → Nat → Bool} : ((lineP N P a).map bLV).length = N := by rw [List.length_map, lineP_len]
theorem lines_put {N a b : Nat} {P : Nat → Nat → Bool} {v : Bool} : ((gridP N P).map lineOw).set a (lineOw (lineP N (putP P a b v) a)) = (gridP N (putP P a b v)).map lineOw := by rw [← gridP_put, List.map_set]
theorem lines_same {N a : Nat} {P : Nat → Nat → Bool} : ((gridP N P).map lineOw).set a (lineOw (lineP N P a)) = (gridP N P).map lineOw := by
  apply List.ext_getElem?
  intro i
  rw [List.getElem?_set]
  split
  · rename_i e; subst e
    split
    · rename_i h; rw [lines_len] at h; rw [lines_get h]
    · rename_i h; rw [List.getElem?_eq_none (by omega)]
  · rfl
theorem cells_put {N a b : Nat} {P : Nat → Nat → Bool} {v : Bool} : ((lineP N P a).map bLV).set b (.bool v) = (lineP N (putP P a b v) a).map bLV := by
  rw [← lineP_put, List.map_set]; rfl

end Go.Proofs.Ytdhmnojnkgmmnaa
namespace Go.Proofs.Ytdhmnojnkgmmnaa
open Go.Lg
set_option maxHeartbeats 1600000
set_option maxRecDepth 10000
set_option linter.unusedVariables false
set_option linter.unusedSimpArgs false

/-! ### Composition place by place -/
def cellC (P Q : Nat → Nat → Bool) (a b c : Nat) (R : Nat → Nat → Bool) : Nat → Nat → Bool := match P a b && Q b c with | true => putP R a c true | false => R
def compR (N : Nat) (P Q : Nat → Nat → Bool) : Nat → Nat → Bool := iter (fun a R => iter (fun b R => iter (cellC P Q a b) N R) N R) N (fun _ _ => false)
theorem iter_cellC (P Q R : Nat → Nat → Bool) (a b : Nat) : ∀ i, iter (cellC P Q a b) i R = fun x y => R x y || (decide (x = a ∧ y < i) && (P a b && Q b y))
  | 0 => by funext x y; simp [iter]
  | i + 1 => by
    simp only [iter]
    rw [iter_cellC P Q R a b i]
    funext x y
    unfold cellC
    cases h : (P a b && Q b i)
    · show (R x y || (decide (x = a ∧ y < i) && (P a b && Q b y))) = _
      congr 1
      by_cases e : x = a ∧ y = i
      · obtain ⟨rfl, rfl⟩ := e; simp only [h]; simp
      · have : (x = a ∧ y < i + 1) ↔ (x = a ∧ y < i) := by
          constructor
          · rintro ⟨h1, h2⟩; exact ⟨h1, by rcases Nat.lt_or_ge y i with h | h; exact h; exact absurd ⟨h1, by omega⟩ e⟩
          · rintro ⟨h1, h2⟩; exact ⟨h1, by omega⟩
        simp only [this]
    · show (if x = a ∧ y = i then true else (R x y || (decide (x = a ∧ y < i) && (P a b && Q b y)))) = _
      by_cases e : x = a ∧ y = i
      · obtain ⟨rfl, rfl⟩ := e; rw [if_pos ⟨rfl, rfl⟩, h]; simp
      · rw [if_neg e]
        have : (x = a ∧ y < i + 1) ↔ (x = a ∧ y < i) := by
          constructor
          · rintro ⟨h1, h2⟩; exact ⟨h1, by rcases Nat.lt_or_ge y i with h | h; exact h; exact absurd ⟨h1, by omega⟩ e⟩
          · rintro ⟨h1, h2⟩; exact ⟨h1, by omega⟩
        simp only [this]
theorem iter_cellB (N : Nat) (P Q R : Nat → Nat → Bool) (a : Nat) : ∀ j, iter (fun b R => iter (cellC P Q a b) N R) j R = fun x y => R x y || (decide (x = a ∧ y < N) && decide (∃ b, b < j ∧ P a b = true ∧ Q b y = true))
  | 0 => by funext x y; simp [iter]
  | j + 1 => by
    simp only [iter]
    rw [iter_cellB N P Q R a j, iter_cellC]
    funext x y
    rw [Bool.or_assoc]
    congr 1
    rw [Bool.eq_iff_iff]
    simp only [Bool.or_eq_true, Bool.and_eq_true, decide_eq_true_eq]
    constructor
    · rintro (⟨h1, b, h2, h3⟩ | ⟨h1, h2⟩)
      · exact ⟨h1, b, by omega, h3⟩
      · exact ⟨h1, j, by omega, h2⟩
    · rintro ⟨h1, b, h2, h3⟩
      rcases Nat.lt_or_ge b j with h | h
      · exact .inl ⟨h1, b, h, h3⟩
      · have : b = j := by omega
        subst this; exact .inr ⟨h1, h3⟩
theorem iter_cellA (N : Nat) (P Q : Nat → Nat → Bool) : ∀ k, iter (fun a R => iter (fun b R => iter (cellC P Q a b) N R) N R) k (fun _ _ => false) = fun x y => decide (x < k ∧ y < N) && compP N P Q x y
  | 0 => by funext x y; simp [iter]
  | k + 1 => by
    simp only [iter]
    rw [iter_cellA N P Q k, iter_cellB]
    funext x y
    unfold compP onP
    rw [Bool.eq_iff_iff]
    simp only [Bool.or_eq_true, Bool.and_eq_true, decide_eq_true_eq]
    constructor
    · rintro (⟨⟨h1, h2⟩, h3⟩ | ⟨⟨rfl, h2⟩, h3⟩)
      · exact ⟨⟨by omega, h2⟩, h3⟩
      · exact ⟨⟨by omega, h2⟩, h3⟩
    · rintro ⟨⟨h1, h2⟩, h3⟩
      rcases Nat.lt_or_ge x k with h | h
      · exact .inl ⟨⟨h, h2⟩, h3⟩
      · have : x = k := by omega
        subst this; exact .inr ⟨⟨rfl, h2⟩, h3⟩
theorem compR_rows (N : Nat) (P Q : Nat → Nat → Bool) : gridP N (compR N P Q) = gridP N (compP N P Q) := gridP_ext fun a ha b hb => by
  unfold compR
  rw [iter_cellA]
  simp [ha, hb]

end Go.Proofs.Ytdhmnojnkgmmnaa
namespace Go.Proofs.Ytdhmnojnkgmmnaa
open Go.Lg
set_option maxHeartbeats 1600000
set_option maxRecDepth 10000
set_option linter.unusedVariables false
set_option linter.unusedSimpArgs false

/-- Combined place by place: those before (k, i) are done. -/
def mxP (f : Bool → Bool → Bool) (P Q : Nat → Nat → Bool) (k i : Nat) : Nat → Nat → Bool := fun a b => if a < k ∨ (a = k ∧ b < i) then f (P a b) (Q a b) else P a b
theorem mxP_zero {f : Bool → Bool → Bool} {P Q : Nat → Nat → Bool} : mxP f P Q 0 0 = P := by funext a b; simp [mxP]
theorem mxP_put {f : Bool → Bool → Bool} {P Q : Nat → Nat → Bool} {k i : Nat} : putP (mxP f P Q k i) k i (f (P k i) (Q k i)) = mxP f P Q k (i + 1) := by
  funext a b
  simp only [putP, mxP]
  by_cases e : a = k ∧ b = i
  · obtain ⟨rfl, rfl⟩ := e; simp
  · rw [if_neg e]
    have : (a < k ∨ (a = k ∧ b < i)) ↔ (a < k ∨ (a = k ∧ b < i + 1)) := by
      constructor
      · rintro (h | ⟨h, h'⟩)
        · exact .inl h
        · exact .inr ⟨h, by omega⟩
      · rintro (h | ⟨h, h'⟩)
        · exact .inl h
        · exact .inr ⟨h, by rcases Nat.lt_or_ge b i with h2 | h2; exact h2; exact absurd ⟨h, by omega⟩ e⟩
    simp only [this]
theorem mxP_at {f : Bool → Bool → Bool} {P Q : Nat → Nat → Bool} {k i : Nat} : mxP f P Q k i k i = P k i := by simp [mxP]
theorem mxP_row {f : Bool → Bool → Bool} {P Q : Nat → Nat → Bool} {N k : Nat} : gridP N (mxP f P Q k N) = gridP N (mxP f P Q (k + 1) 0) := gridP_ext fun a _ b hb => by
  simp only [mxP]
  have : (a < k ∨ (a = k ∧ b < N)) ↔ (a < k + 1 ∨ (a = k + 1 ∧ b < 0)) := by omega
  simp only [this]
theorem mxP_all {f : Bool → Bool → Bool} {P Q : Nat → Nat → Bool} {N : Nat} : relRows N (mxP f P Q N 0) = relRows N (allP f P Q) := relRows_ext fun a ha b _ => by simp [mxP, allP, ha]

theorem mx_cells {f : Bool → Bool → Bool} {P Q : Nat → Nat → Bool} {N k i : Nat} {v : Bool} (ev : f (P k i) (Q k i) = v) : ((lineP N (mxP f P Q k i) k).map bLV).set i (.bool v) = (lineP N (mxP f P Q k (i + 1)) k).map bLV := by
  subst ev
  rw [← mxP_put]; exact cells_put
end Go.Proofs.Ytdhmnojnkgmmnaa
namespace Go.Proofs.Ytdhmnojnkgmmnaa
open Go.Lg
set_option maxHeartbeats 1600000
set_option maxRecDepth 10000
set_option linter.unusedVariables false
set_option linter.unusedSimpArgs false

end Go.Proofs.Ytdhmnojnkgmmnaa
namespace Go.Proofs.Ytdhmnojnkgmmnaa
open Go.Lg
set_option maxHeartbeats 1600000
set_option maxRecDepth 10000
set_option linter.unusedVariables false
set_option linter.unusedSimpArgs false

theorem prTo_end (rows : List (List Int)) : prTo rows rows.length 0 = prFrom 0 rows := by rw [prTo_zero, List.take_length]

end Go.Proofs.Ytdhmnojnkgmmnaa
namespace Go.Proofs.Ytdhmnojnkgmmnaa
open Go.Lg
set_option maxHeartbeats 1600000
set_option maxRecDepth 10000
set_option linter.unusedVariables false
set_option linter.unusedSimpArgs false

end Go.Proofs.Ytdhmnojnkgmmnaa
namespace Go.Proofs.Ytdhmnojnkgmmnaa
open Go.Lg
set_option maxHeartbeats 1600000
set_option maxRecDepth 10000
set_option linter.unusedVariables false
set_option linter.unusedSimpArgs false

/-! A row whose element i is written field by field. -/
section
variable {L : List LV} {i : Nat}
theorem fw_get (h : i < L.length) (fs : List LV) : getP (.st (L.set i (.st fs))) [i] = some (.st fs) := by simp [getP, h]
theorem fw_get2 (h : i < L.length) {fs : List LV} {f : Nat} {x : LV} (hx : fs[f]? = some x) : getP (.st (L.set i (.st fs))) [i, f] = some x := by simp [getP, h, hx]
theorem fw_set (h : i < L.length) {fs : List LV} {f : Nat} {x : LV} (hx : fs[f]? = some x) (v : LV) :
    (match (L.set i (.st fs))[i]? with | some z => (L.set i (.st fs)).set i (setP z [f] v) | none => L.set i (.st fs)) = L.set i (.st (fs.set f v)) := by
  have : (L.set i (.st fs))[i]? = some (.st fs) := by simp [h]
  rw [this]
  simp only [setP, hx]
  cases x <;> simp [List.set_set]
theorem fw_self (h : i < L.length) {fs : List LV} (hx : L[i]? = some (.st fs)) : L = L.set i (.st fs) := by
  apply List.ext_getElem?
  intro j
  rw [List.getElem?_set]
  split
  · rename_i e; subst e; exact hx
  · rfl
end

def markPer (k : Nat) : Per := ⟨mText k, (k : Int) + 1, (k : Int) + 2, (k : Int) + 3, (k : Int) + 4, (k : Int) + 5⟩
def markPers (k : Nat) : Nat → List Per
  | 0 => []
  | n + 1 => markPers k n ++ [markPer (k + 6 * n)]
theorem markPers_len (k : Nat) : ∀ n, (markPers k n).length = n
  | 0 => rfl
  | n + 1 => by simp [markPers, markPers_len k n]
def rowPM (k : Nat) (ps : List Per) (i : Nat) : List LV := (markPers k i ++ ps.drop i).map Per.lv
theorem rowPM_len {k : Nat} {ps : List Per} {i : Nat} (h : i ≤ ps.length) : (rowPM k ps i).length = ps.length := by simp [rowPM, markPers_len]; omega
theorem rowPM_get {k : Nat} {ps : List Per} {i : Nat} (h : i < ps.length) : (rowPM k ps i)[i]? = some ps[i].lv := by
  unfold rowPM
  rw [List.getElem?_map, List.getElem?_append_right (by rw [markPers_len]; exact Nat.le_refl _), markPers_len, Nat.sub_self, List.getElem?_drop, Nat.add_zero, List.getElem?_eq_getElem h]
  rfl
theorem rowPM_set {k : Nat} {ps : List Per} {i : Nat} (h : i < ps.length) : (rowPM k ps i).set i (markPer (k + 6 * i)).lv = rowPM k ps (i + 1) := by
  unfold rowPM
  rw [List.drop_eq_getElem_cons h, List.map_append, List.map_cons, List.set_append_right _ _ (by simp [markPers_len])]
  simp [markPers, markPers_len]

theorem markPersonS_spec (ps : List Per) (n : Nat) (hn : n = (ps.map Per.lv).length) (k : Nat) (h1 : k + 6 * ps.length ≤ 2305843009213693952) :
    HSpec env.P 126 [.hs 0 n, .int .i64 (k : Int)] [.arr 116 6 (ps.map Per.lv)] (.int .i64 ((k + 6 * ps.length : Nat) : Int)) [.arr 116 6 ((markPers k ps.length).map Per.lv)] := by
  subst hn
  refine HSpec_of_code (E := env.x [] 1) env_ok.x (fn := Try.f126) Try.func126 rfl Try.call126 _ _ _ _ ?_
  ((repeat ((conv => whnf); first | refine brT ?_ | refine brF ?_)); conv => whnf)
  refine loop_rule (α := Nat) (fun i => [(5, .int .i64 (i : Int)), (1, .int .i64 ((k + 6 * i : Nat) : Int)), (0, .hs 0 (rowPM k ps i).length)]) (fun i => [.arr 116 6 (rowPM k ps i)]) (fun i => ps.length - i) (fun i => i ≤ ps.length) 0 (Nat.zero_le _) ?_ ?_
  · have e0 : ps.map Per.lv = rowPM k ps 0 := by simp [rowPM, markPers]
    have e1 : LV.hs 0 (ps.map Per.lv).length = LV.hs 0 (rowPM k ps 0).length := by rw [e0]
    refine ⟨?_, ⟨congrArg (Blk.arr 116 6) e0, trivial⟩, rfl, rfl⟩
    ((repeat ((conv => whnf); first | refine ⟨e1, ?_⟩ | refine ⟨rfl, ?_⟩)); trivial)
  intro i hi
  have hl := rowPM_len (k := k) hi
  ((repeat ((conv => whnf); first | refine brT ?_ | refine brF ?_)); conv => whnf)
  refine ⟨rfl, fun hm => ?_⟩
  have hm' : ps.length ≤ Go.maxLen := by rw [← hl]; exact hm
  ((repeat ((conv => whnf); first | refine brT ?_ | refine brF ?_)); conv => whnf)
  (refine ⟨fun g1 => ?_, fun g1 => ?_⟩ <;> rw [g1])
  · have hlt : i < ps.length := by rw [ltI_t] at g1; omega
    have e := step_i hlt hm'
    have hiL : i < (rowPM k ps i).length := by omega
    have hg := rowPM_get (k := k) hlt
    have hset := rowPM_set (k := k) hlt
    have w0 : IntKind.i64.wrap (((k + 6 * i : Nat) : Int) + 1) = ((k + 6 * i : Nat) : Int) + 1 := wrap64 (by omega) (by omega)
    have w1 : IntKind.i64.wrap (((k + 6 * i : Nat) : Int) + 1 + 1) = ((k + 6 * i : Nat) : Int) + 2 := by rw [wrap64 (by omega) (by omega)]; omega
    have w2 : IntKind.i64.wrap (((k + 6 * i : Nat) : Int) + 2 + 1) = ((k + 6 * i : Nat) : Int) + 3 := by rw [wrap64 (by omega) (by omega)]; omega
    have w3 : IntKind.i64.wrap (((k + 6 * i : Nat) : Int) + 3 + 1) = ((k + 6 * i : Nat) : Int) + 4 := by rw [wrap64 (by omega) (by omega)]; omega
    have w4 : IntKind.i64.wrap (((k + 6 * i : Nat) : Int) + 4 + 1) = ((k + 6 * i : Nat) : Int) + 5 := by rw [wrap64 (by omega) (by omega)]; omega
    have w5 : IntKind.i64.wrap (((k + 6 * i : Nat) : Int) + 5 + 1) = ((k + 6 * (i + 1) : Nat) : Int) := by rw [wrap64 (by omega) (by omega)]; omega
    have hlen : ∀ x : LV, (rowPM k ps i).length = ((rowPM k ps i).set i x).length := fun x => by simp
    generalize ps[i] = p at hg hset
    generalize hK : ((k + 6 * i : Nat) : Int) = kk at w0 w1 w2 w3 w4 w5 ⊢
    generalize hN : mText (k + 6 * i) = nm
    have hmt := markText_spec (k + 6 * i) (by omega)
    rw [hK, hN] at hmt
    have hfin : (rowPM k ps i).set i (.st [.str nm, .int .i64 (kk + 1), .int .i64 (kk + 2), .int .i64 (kk + 3), .int .i64 (kk + 4), .int .i64 (kk + 5)]) = rowPM k ps (i + 1) := by
      rw [← hset]; unfold markPer Per.lv; rw [hK, hN]
    generalize rowPM k ps i = L at hl hm hiL hg hlen hfin g1 ⊢
    have hgp : getP (.st L) [i] = some (.st [LV.str p.name, LV.int .i64 p.sex, LV.int .i64 p.father, LV.int .i64 p.mother, LV.int .i64 p.born, LV.int .i64 p.died]) := by simp [getP, hg, Per.lv]
    have hgp0 : getP (.st L) [i, 0] = some (.str p.name) := by simp [getP, hg, Per.lv]
    ((repeat ((conv => whnf); first | refine brT ?_ | refine brF ?_)); conv => whnf)
    refine ⟨_, hmt, ?_⟩
    ((repeat ((conv => whnf); first | refine brT ?_ | refine brF ?_)); conv => whnf)
    refine ⟨rfl, rfl, i, rfl, hiL, ?_⟩
    ((repeat ((conv => whnf); first | refine brT ?_ | refine brF ?_)); conv => whnf)
    refine ⟨rfl, by simp, [LV.str p.name, LV.int .i64 p.sex, LV.int .i64 p.father, LV.int .i64 p.mother, LV.int .i64 p.born, LV.int .i64 p.died], hgp, rfl, by simp, ?_⟩
    ((repeat ((conv => whnf); first | refine brT ?_ | refine brF ?_)); conv => whnf)
    refine ⟨rfl, i, [0], .str p.name, rfl, hgp0, rfl, rfl, rfl, L.set i (.st [.str nm, .int .i64 p.sex, .int .i64 p.father, .int .i64 p.mother, .int .i64 p.born, .int .i64 p.died]), by rw [hg]; rfl, ?_⟩
    ((repeat ((conv => whnf); first | refine brT ?_ | refine brF ?_)); conv => whnf)
    rw [w0]
    refine ⟨hlen _, rfl, i, rfl, by simpa using hiL, ?_⟩
    ((repeat ((conv => whnf); first | refine brT ?_ | refine brF ?_)); conv => whnf)
    refine ⟨hlen _, by simp, _, fw_get hiL _, rfl, by simp, ?_⟩
    ((repeat ((conv => whnf); first | refine brT ?_ | refine brF ?_)); conv => whnf)
    refine ⟨hlen _, i, [1], _, rfl, fw_get2 hiL rfl, rfl, rfl, rfl, _, fw_set hiL rfl (.int .i64 (kk + 1)), ?_⟩
    ((repeat ((conv => whnf); first | refine brT ?_ | refine brF ?_)); conv => whnf)
    rw [w1]
    refine ⟨hlen _, rfl, i, rfl, by simpa using hiL, ?_⟩
    ((repeat ((conv => whnf); first | refine brT ?_ | refine brF ?_)); conv => whnf)
    refine ⟨hlen _, by simp, _, fw_get hiL _, rfl, by simp, ?_⟩
    ((repeat ((conv => whnf); first | refine brT ?_ | refine brF ?_)); conv => whnf)
    refine ⟨hlen _, i, [2], _, rfl, fw_get2 hiL rfl, rfl, rfl, rfl, _, fw_set hiL rfl (.int .i64 (kk + 2)), ?_⟩
    ((repeat ((conv => whnf); first | refine brT ?_ | refine brF ?_)); conv => whnf)
    rw [w2]
    refine ⟨hlen _, rfl, i, rfl, by simpa using hiL, ?_⟩
    ((repeat ((conv => whnf); first | refine brT ?_ | refine brF ?_)); conv => whnf)
    refine ⟨hlen _, by simp, _, fw_get hiL _, rfl, by simp, ?_⟩
    ((repeat ((conv => whnf); first | refine brT ?_ | refine brF ?_)); conv => whnf)
    refine ⟨hlen _, i, [3], _, rfl, fw_get2 hiL rfl, rfl, rfl, rfl, _, fw_set hiL rfl (.int .i64 (kk + 3)), ?_⟩
    ((repeat ((conv => whnf); first | refine brT ?_ | refine brF ?_)); conv => whnf)
    rw [w3]
    refine ⟨hlen _, rfl, i, rfl, by simpa using hiL, ?_⟩
    ((repeat ((conv => whnf); first | refine brT ?_ | refine brF ?_)); conv => whnf)
    refine ⟨hlen _, by simp, _, fw_get hiL _, rfl, by simp, ?_⟩
    ((repeat ((conv => whnf); first | refine brT ?_ | refine brF ?_)); conv => whnf)
    refine ⟨hlen _, i, [4], _, rfl, fw_get2 hiL rfl, rfl, rfl, rfl, _, fw_set hiL rfl (.int .i64 (kk + 4)), ?_⟩
    ((repeat ((conv => whnf); first | refine brT ?_ | refine brF ?_)); conv => whnf)
    rw [w4]
    refine ⟨hlen _, rfl, i, rfl, by simpa using hiL, ?_⟩
    ((repeat ((conv => whnf); first | refine brT ?_ | refine brF ?_)); conv => whnf)
    refine ⟨hlen _, by simp, _, fw_get hiL _, rfl, by simp, ?_⟩
    ((repeat ((conv => whnf); first | refine brT ?_ | refine brF ?_)); conv => whnf)
    refine ⟨hlen _, i, [5], _, rfl, fw_get2 hiL rfl, rfl, rfl, rfl, _, fw_set hiL rfl (.int .i64 (kk + 5)), ?_⟩
    ((repeat ((conv => whnf); first | refine brT ?_ | refine brF ?_)); conv => whnf)
    have e5 : LV.hs 0 L.length = LV.hs 0 (rowPM k ps (i + 1)).length := by rw [hl, rowPM_len (by omega)]
    have e6 : LV.int .i64 (IntKind.i64.wrap (kk + 5 + 1)) = LV.int .i64 ((k + 6 * (i + 1) : Nat) : Int) := by rw [w5]
    refine round_end (i + 1) hlt (by omega) ⟨?_, ⟨congrArg (Blk.arr 116 6) hfin, trivial⟩, rfl, rfl⟩
    repeat ((conv => whnf); first | refine ⟨e, ?_⟩ | refine ⟨e6, ?_⟩ | refine ⟨e5, ?_⟩ | refine ⟨rfl, ?_⟩)
    trivial
  · have h3 : i = ps.length := by rw [ltI_f] at g1; omega
    subst h3
    ((repeat ((conv => whnf); first | refine brT ?_ | refine brF ?_)); conv => whnf)
    exact ⟨[.int .i64 ((k + 6 * ps.length : Nat) : Int)], rfl, rfl, .inl ⟨⟨rfl, trivial⟩, ⟨by simp [rowPM], trivial⟩, rfl, rfl⟩⟩
end Go.Proofs.Ytdhmnojnkgmmnaa

namespace Go.Proofs.Ytdhmnojnkgmmnaa
open Go.Lg
set_option maxHeartbeats 1600000
set_option maxRecDepth 10000
set_option linter.unusedVariables false
set_option linter.unusedSimpArgs false

def Pr.eq (p q : Pr) : Bool := eqI p.a q.a && eqI p.b q.b
theorem Pr.eq_refl (p : Pr) : p.eq p = true := by simp [Pr.eq, eqI_refl]
theorem eqPairS_refl (ps : List Pr) : eqList Pr.eq ps ps = true := eqList_refl Pr.eq_refl ps

def markPrs (k : Nat) : Nat → List Pr
  | 0 => []
  | n + 1 => markPrs k n ++ [⟨((k + 2 * n : Nat) : Int), ((k + 2 * n : Nat) : Int) + 1⟩]
theorem markPrs_len (k : Nat) : ∀ n, (markPrs k n).length = n
  | 0 => rfl
  | n + 1 => by simp [markPrs, markPrs_len k n]
theorem markPrs_get (k : Nat) : ∀ (n i : Nat), i < n → (markPrs k n)[i]? = some ⟨((k + 2 * i : Nat) : Int), ((k + 2 * i : Nat) : Int) + 1⟩
  | 0, i, h => by omega
  | n + 1, i, h => by
    simp only [markPrs]
    by_cases e : i = n
    · subst e; rw [List.getElem?_append_right (by rw [markPrs_len]; exact Nat.le_refl _), markPrs_len]; simp
    · rw [List.getElem?_append_left (by rw [markPrs_len]; omega)]; exact markPrs_get k n i (by omega)
def rowQM (k : Nat) (ps : List Pr) (i : Nat) : List LV := (markPrs k i ++ ps.drop i).map Pr.lv
theorem rowQM_len {k : Nat} {ps : List Pr} {i : Nat} (h : i ≤ ps.length) : (rowQM k ps i).length = ps.length := by simp [rowQM, markPrs_len]; omega
theorem rowQM_get {k : Nat} {ps : List Pr} {i : Nat} (h : i < ps.length) : (rowQM k ps i)[i]? = some ps[i].lv := by
  unfold rowQM
  rw [List.getElem?_map, List.getElem?_append_right (by rw [markPrs_len]; exact Nat.le_refl _), markPrs_len, Nat.sub_self, List.getElem?_drop, Nat.add_zero, List.getElem?_eq_getElem h]
  rfl
theorem rowQM_set {k : Nat} {ps : List Pr} {i : Nat} (h : i < ps.length) : (rowQM k ps i).set i (Pr.lv ⟨((k + 2 * i : Nat) : Int), ((k + 2 * i : Nat) : Int) + 1⟩) = rowQM k ps (i + 1) := by
  unfold rowQM
  rw [List.drop_eq_getElem_cons h, List.map_append, List.map_cons, List.set_append_right _ _ (by simp [markPrs_len])]
  simp [markPrs, markPrs_len]

end Go.Proofs.Ytdhmnojnkgmmnaa
namespace Go.Proofs.Ytdhmnojnkgmmnaa
open Go.Lg
set_option maxHeartbeats 1600000
set_option maxRecDepth 10000
set_option linter.unusedVariables false
set_option linter.unusedSimpArgs false

/-! ### Wrappers of the model -/
/-- A relation made, handed out with its rows frozen. -/
theorem rel_f {F : Nat} {args : List LV} {N : Nat} {R : List (List Int)} (h : HSpec env.P F args [] (relHS N 0 (R.map rowOw).length) [.tree 38 1 (R.map rowOw)]) : FSpec env.P F args (.st [.int .i64 (N : Int), .own 38 1 (R.map rowSl)]) :=
  FSpec_of_tree h (by
    simp only [relHS, exW, exsW]
    exact ⟨trivial, trivial, by rw [dms_rows]; simp, rfl, rfl, dms_rows _, by simp⟩)

/-! ### Equality -/
/-- Whether two valid relations of one size are equal. -/
def relEq (n : Int) (rows : List (List Int)) (m : Int) (rows' : List (List Int)) : Bool := alike n rows m rows' && decide (rows = rows')

theorem sets_flat (N : Nat) (P : Nat → Nat → Bool) : flatT (LV.own 121 1 ((setsP N P).map uLV)) = true := by
  simp only [flatT, flatB]
  generalize setsP N P = l
  induction l with
  | nil => rfl
  | cons x xs ih => simp only [List.map_cons, flatsB, ih]; rfl
def eqU (a b : Nat) : Bool := eqI (a : Int) (b : Int)
theorem eqU_t {a b : Nat} : eqU a b = true ↔ a = b := by unfold eqU; rw [eqI_t]; omega
theorem eqList_iff {α : Type} {f : α → α → Bool} (hf : ∀ a b, f a b = true ↔ a = b) : ∀ (ps qs : List α), eqList f ps qs = true ↔ ps = qs
  | [], [] => by simp [eqList]
  | [], _ :: _ => by simp [eqList]
  | _ :: _, [] => by simp [eqList]
  | x :: xs, y :: ys => by
    simp only [eqList, Bool.and_eq_true, hf, eqList_iff hf xs ys, List.cons.injEq]
theorem sets_eq {n : Int} {rows rows' : List (List Int)} (hr : RelIn n rows) (hs : RelIn n rows') (hl : rows'.length = rows.length) :
    eqList eqU (setsP rows.length (relP rows)) (setsP rows.length (relP rows')) = decide (rows = rows') := by
  rw [Bool.eq_iff_iff, eqList_iff (fun a b => eqU_t), decide_eq_true_eq]
  constructor
  · intro h
    have e1 := setsP_rows (n := rows.length) (P := relP rows) hr.size
    have e2 := setsP_rows (n := rows.length) (P := relP rows') hr.size
    have h1 : RelIn (rows.length : Int) rows := by have := hr.len; rw [this]; exact hr
    have h2 : RelIn (rows.length : Int) rows' := by have := hr.len; rw [this]; exact hs
    rw [rows_eq h1, rows_eq h2, ← e1, ← e2, h]
  · rintro rfl; rfl
theorem grid_eq {n : Int} {rows rows' : List (List Int)} (hr : RelIn n rows) (hs : RelIn n rows') (hl : rows'.length = rows.length) :
    decide (∀ a, a < rows.length → ∀ b, b < rows.length → relP rows a b = relP rows' a b) = decide (rows = rows') := by
  rw [decide_eq_decide]
  constructor
  · intro h
    have h1 : RelIn (rows.length : Int) rows := by have := hr.len; rw [this]; exact hr
    have h2 : RelIn (rows.length : Int) rows' := by have := hr.len; rw [this]; exact hs
    rw [rows_eq h1, rows_eq h2, relRows_ext h]
  · rintro rfl; exact fun _ _ _ _ => rfl
end Go.Proofs.Ytdhmnojnkgmmnaa
namespace Go.Proofs.Ytdhmnojnkgmmnaa
open Go.Lg
set_option maxHeartbeats 1600000
set_option maxRecDepth 10000
set_option linter.unusedVariables false
set_option linter.unusedSimpArgs false

theorem flats_prs : ∀ xs : List Pr, flatsB (xs.map Pr.lv) = true
  | [] => rfl
  | x :: xs => by simp [flatsB, flatB, Pr.lv]; exact flats_prs xs

end Go.Proofs.Ytdhmnojnkgmmnaa
namespace Go.Proofs.Ytdhmnojnkgmmnaa
open Go.Lg
set_option maxHeartbeats 1600000
set_option maxRecDepth 10000
set_option linter.unusedVariables false
set_option linter.unusedSimpArgs false

theorem mem_prFrom : ∀ (rows : List (List Int)) (a0 : Nat) (p : Pr), p ∈ prFrom a0 rows ↔ ∃ i : Nat, i < rows.length ∧ p.a = ((a0 + i : Nat) : Int) ∧ p.b ∈ rows.getD i []
  | [], a0, p => by simp [prFrom]
  | r :: rs, a0, p => by
    simp only [prFrom, List.mem_append, mem_prFrom rs (a0 + 1) p]
    constructor
    · rintro (h | ⟨i, h1, h2, h3⟩)
      · obtain ⟨b, hb, rfl⟩ := List.mem_map.1 h
        exact ⟨0, by simp, by simp, by simpa using hb⟩
      · exact ⟨i + 1, by simp; omega, by rw [h2]; congr 1; omega, by simpa using h3⟩
    · rintro ⟨i, h1, h2, h3⟩
      cases i with
      | zero =>
        left
        refine List.mem_map.2 ⟨p.b, by simpa using h3, ?_⟩
        cases p; simp at h2 ⊢; exact h2.symm
      | succ i => right; exact ⟨i, by simpa using h1, by rw [h2]; congr 1; omega, by simpa using h3⟩

/-- Whether what is related in the one is related in the other. -/
def relWithin (n : Int) (rows : List (List Int)) (m : Int) (rows' : List (List Int)) : Bool :=
  alike n rows m rows' && decide (∀ a, a < rows.length → ∀ b, b < rows.length → relP rows a b = true → relP rows' a b = true)

theorem less_none {N : Nat} {P Q : Nat → Nat → Bool} (hN : N ≤ 40) : eqI ((pairsL N (relRows N (allP (fun x y => x && !y) P Q))).length : Int) 0 = decide (∀ a, a < N → ∀ b, b < N → P a b = true → Q a b = true) := by
  have hin := relRows_in (n := N) (P := allP (fun x y => x && !y) P Q) hN
  have e : pairsL N (relRows N (allP (fun x y => x && !y) P Q)) = prFrom 0 (relRows N (allP (fun x y => x && !y) P Q)) := by unfold pairsL; rw [relOk_of hin]
  rw [e, Bool.eq_iff_iff, eqI_t, decide_eq_true_eq]
  constructor
  · intro h a ha b hb hp
    cases hq : Q a b
    · exfalso
      have hz : prFrom 0 (relRows N (allP (fun x y => x && !y) P Q)) = [] := List.eq_nil_of_length_eq_zero (by omega)
      have hm : (⟨(a : Int), (b : Int)⟩ : Pr) ∈ prFrom 0 (relRows N (allP (fun x y => x && !y) P Q)) :=
        (mem_prFrom _ 0 _).2 ⟨a, by rw [relRows_len]; exact ha, by simp, (relRows_mem ha).2 ⟨hb, by simp [allP, hp, hq]⟩⟩
      rw [hz] at hm
      simp at hm
    · rfl
  · intro h
    have : prFrom 0 (relRows N (allP (fun x y => x && !y) P Q)) = [] := by
      rw [List.eq_nil_iff_forall_not_mem]
      intro p hp
      obtain ⟨i, h1, h2, h3⟩ := (mem_prFrom _ 0 p).1 hp
      rw [relRows_len] at h1
      have hr : (relRows N (allP (fun x y => x && !y) P Q)).getD i [] ∈ relRows N (allP (fun x y => x && !y) P Q) := by
        have : i < (relRows N (allP (fun x y => x && !y) P Q)).length := by rw [relRows_len]; exact h1
        rw [List.getD_eq_getElem?_getD, List.getElem?_eq_getElem this]; exact List.getElem_mem this
      obtain ⟨b0, b1, _⟩ := hin.mem hr h3
      obtain ⟨b, hb⟩ : ∃ b : Nat, p.b = (b : Int) := ⟨p.b.toNat, by omega⟩
      rw [hb, relRows_mem h1] at h3
      have := h i h1 b h3.1
      simp only [allP, Bool.and_eq_true, Bool.not_eq_true'] at h3
      rw [this h3.2.1] at h3
      simp at h3
    rw [this]; rfl

end Go.Proofs.Ytdhmnojnkgmmnaa
namespace Go.Proofs.Ytdhmnojnkgmmnaa
open Go.Lg
set_option maxHeartbeats 1600000
set_option maxRecDepth 10000
set_option linter.unusedVariables false
set_option linter.unusedSimpArgs false

theorem tot_relRows {N : Nat} {P : Nat → Nat → Bool} (hN : N ≤ 40) : tot (relRows N P) ≤ 1600 := (relRows_in hN).tot
theorem rsN_le {n : Int} {rows : List (List Int)} : rsN (relOk n rows) rows ≤ 40 := by
  cases h : relOk n rows
  · simp [rsN]
  · exact (relIn_of h).size
theorem rsN_le2 {n : Int} {rows : List (List Int)} {m : Int} {rows' : List (List Int)} : rsN (alike n rows m rows') rows ≤ 40 := by
  cases h : alike n rows m rows'
  · simp [rsN]
  · exact (alike_in h).1.size

end Go.Proofs.Ytdhmnojnkgmmnaa
namespace Go.Proofs.Ytdhmnojnkgmmnaa
open Go.Lg
set_option maxHeartbeats 1600000
set_option maxRecDepth 10000
set_option linter.unusedVariables false
set_option linter.unusedSimpArgs false

def zPr : LV := .st [.int .i64 0, .int .i64 0]
abbrev shPairs : Sh := .sl (.st [.int .i64, .int .i64])
theorem prs_of : ∀ (xs : List LV), (∀ x ∈ xs, hasSh (.st [.int .i64, .int .i64]) x) → ∃ ps : List Pr, xs = ps.map Pr.lv
  | [], _ => ⟨[], rfl⟩
  | x :: xs, h => by
    obtain ⟨ps, rfl⟩ := prs_of xs fun y hy => h y (by simp [hy])
    have h1 := h x (by simp)
    simp only [hasSh] at h1
    obtain ⟨ys, rfl, h2⟩ := h1
    match ys, h2 with
    | [a, b], h2 =>
      simp only [hasShs, hasSh] at h2
      obtain ⟨⟨a, rfl⟩, ⟨b, rfl⟩, _⟩ := h2
      exact ⟨⟨a, b⟩ :: ps, rfl⟩
    | [], h2 => simp [hasShs] at h2
    | [_], h2 => simp [hasShs] at h2
    | _ :: _ :: _ :: _, h2 => simp [hasShs] at h2
theorem pairs_of_sh {x : LV} (h : hasSh shPairs x) : ∃ ps : List Pr, x = .sl (ps.map Pr.lv) ∧ ps.length ≤ Go.maxLen := by
  simp only [hasSh] at h
  obtain ⟨xs, rfl, hl, h⟩ := h
  obtain ⟨ps, rfl⟩ := prs_of xs fun x hx => by simp only [hasSh]; exact h x hx
  exact ⟨ps, rfl, by simpa using hl⟩

/-- What pairs say, the first k of them. -/
def prTk (ps : List Pr) (k : Nat) : Nat → Nat → Bool := fun a b => decide (∃ p ∈ ps.take k, p.a = (a : Int) ∧ p.b = (b : Int))
def prInB (n : Int) (p : Pr) : Bool := (leI 0 p.a && ltI p.a n) && (leI 0 p.b && ltI p.b n)
def prOk (n : Int) (ps : List Pr) : Bool := (leI 0 n && leI n 40) && ps.all (prInB n)
def prN (n : Int) (ps : List Pr) : Nat := match prOk n ps with | true => n.toNat | false => 0
theorem prTk_zero (ps : List Pr) : prTk ps 0 = fun _ _ => false := by funext a b; simp [prTk]
theorem prTk_succ {ps : List Pr} {k a b : Nat} (hk : k < ps.length) (e : ps[k] = ⟨(a : Int), (b : Int)⟩) : putP (prTk ps k) a b true = prTk ps (k + 1) := by
  funext x y
  have ht : ps.take (k + 1) = ps.take k ++ [⟨(a : Int), (b : Int)⟩] := by rw [List.take_succ_eq_append_getElem hk, e]
  unfold putP prTk
  by_cases h : x = a ∧ y = b
  · obtain ⟨rfl, rfl⟩ := h
    rw [if_pos ⟨rfl, rfl⟩]
    exact (decide_eq_true ⟨⟨(x : Int), (y : Int)⟩, by rw [ht]; simp, rfl, rfl⟩).symm
  · rw [if_neg h, decide_eq_decide]
    constructor
    · rintro ⟨p, h1, h2⟩; exact ⟨p, by rw [ht]; exact List.mem_append_left _ h1, h2⟩
    · rintro ⟨p, h1, h2, h3⟩
      rw [ht, List.mem_append, List.mem_singleton] at h1
      rcases h1 with h1 | rfl
      · exact ⟨p, h1, h2, h3⟩
      · exact absurd ⟨by simp at h2; omega, by simp at h3; omega⟩ h
theorem prInB_nat {N : Nat} {p : Pr} (h : prInB (N : Int) p = true) : ∃ a b : Nat, p = ⟨(a : Int), (b : Int)⟩ ∧ a < N ∧ b < N := by
  unfold prInB at h
  simp only [Bool.and_eq_true, leI_t, ltI_t] at h
  cases p with
  | mk pa pb => exact ⟨pa.toNat, pb.toNat, by simp at h ⊢; omega, by simp at h; omega, by simp at h; omega⟩
theorem prNo {n : Int} {ps : List Pr} {p : Pr} (hp : p ∈ ps) (h : prInB n p = false) : prOk n ps = false := by
  unfold prOk
  rw [Bool.and_eq_false_iff]
  right
  rw [List.all_eq_false]
  exact ⟨p, hp, by rw [h]; simp⟩
theorem prSz {n : Int} {ps : List Pr} (h : notB (leI 0 n && leI n 40) = true) : prOk n ps = false := by
  unfold prOk; rw [notB_t] at h; rw [h]; rfl

theorem prN_le {n : Int} {ps : List Pr} : prN n ps ≤ 40 := by
  unfold prN
  split
  · rename_i h
    unfold prOk at h
    simp only [Bool.and_eq_true, leI_t] at h
    omega
  · omega

end Go.Proofs.Ytdhmnojnkgmmnaa
namespace Go.Proofs.Ytdhmnojnkgmmnaa
open Go.Lg
set_option maxHeartbeats 1600000
set_option maxRecDepth 10000
set_option linter.unusedVariables false
set_option linter.unusedSimpArgs false

/-! A step is a pair: its kind and its age. -/
def typLV (e : Int) (ss : List Pr) : LV := .st [.int .i64 e, .sl (ss.map Pr.lv)]
def typHS (e : Int) (a m : Nat) : LV := .st [.int .i64 e, .hs a m]

def zStp : LV := .st [.int .i64 0, .int .i64 0]
def szT (l : Int) (n : Nat) : Int := match ltI (szN l n) 0 with | true => -1 | false => szN l n
theorem eqStep_spec (p q : Pr) : FSpec env.P 239 [p.lv, q.lv] (.bool (p.eq q)) := by
  refine FSpec_of_code env_ok (fn := Try.f239) Try.func239 rfl Try.call239 _ _ ?_
  ((repeat' (((repeat ((conv => whnf); first | refine brT ?_ | refine brF ?_)); conv => whnf); (refine And.intro ?_ ?_ <;> (intro h; rw [h]; revert h; intro _)))); all_goals ((repeat ((conv => whnf); first | refine brT ?_ | refine brF ?_)); conv => whnf))
  all_goals (refine fin ?_; simp_all [Pr.eq, notB])
theorem eqStepS_spec (ps qs : List Pr) : FSpec env.P 174 [.sl (ps.map Pr.lv), .sl (qs.map Pr.lv)] (.bool (eqList Pr.eq ps qs)) := by
  refine FSpec_of_code env_ok (fn := Try.f174) Try.func174 rfl Try.call174 _ _ ?_
  ((repeat ((conv => whnf); first | refine brT ?_ | refine brF ?_)); conv => whnf)
  intro hp
  ((repeat ((conv => whnf); first | refine brT ?_ | refine brF ?_)); conv => whnf)
  intro hq
  ((repeat ((conv => whnf); first | refine brT ?_ | refine brF ?_)); conv => whnf)
  (refine ⟨fun h => ?_, fun h => ?_⟩ <;> rw [h])
  · ((repeat ((conv => whnf); first | refine brT ?_ | refine brF ?_)); conv => whnf)
    refine fin ?_
    rw [notB_t] at h
    rw [eqList_len (eqI_nolen h)]
  rw [notB_f] at h
  have hl := eqI_len h
  have hp' : ps.length ≤ Go.maxLen := by simpa using hp
  ((repeat ((conv => whnf); first | refine brT ?_ | refine brF ?_)); conv => whnf)
  refine loop_rule (α := Nat) (fun k => [(5, .int .i64 (k : Int))]) (fun _ => []) (fun k => ps.length - k) (fun k => k ≤ ps.length ∧ eqTo Pr.eq ps qs k) 0 ⟨Nat.zero_le _, fun _ _ _ h => absurd h (Nat.not_lt_zero _)⟩ ?_ ?_
  · refine ⟨?_, trivial, rfl, rfl⟩
    ((repeat ((conv => whnf); refine ⟨rfl, ?_⟩)); trivial)
  rintro k ⟨hk, he⟩
  ((repeat ((conv => whnf); first | refine brT ?_ | refine brF ?_)); conv => whnf)
  intro _
  ((repeat ((conv => whnf); first | refine brT ?_ | refine brF ?_)); conv => whnf)
  (refine ⟨fun h1 => ?_, fun h1 => ?_⟩ <;> rw [h1])
  · have hlt : k < ps.length := by rw [ltI_t] at h1; simp at h1; omega
    have hlt2 : k < qs.length := by omega
    ((repeat ((conv => whnf); first | refine brT ?_ | refine brF ?_)); conv => whnf)
    refine ⟨true, by kernel_rfl, ?_⟩
    ((repeat ((conv => whnf); first | refine brT ?_ | refine brF ?_)); conv => whnf)
    refine ⟨k, ps[k].lv, rfl, by simp [hlt], rfl, ?_⟩
    ((repeat ((conv => whnf); first | refine brT ?_ | refine brF ?_)); conv => whnf)
    refine ⟨k, qs[k].lv, rfl, by simp [hlt2], rfl, ?_⟩
    ((repeat ((conv => whnf); first | refine brT ?_ | refine brF ?_)); conv => whnf)
    refine ⟨_, eqStep_spec ps[k] qs[k], ?_⟩
    ((repeat ((conv => whnf); first | refine brT ?_ | refine brF ?_)); conv => whnf)
    (refine ⟨fun h3 => ?_, fun h3 => ?_⟩ <;> rw [h3])
    · rw [notB_t] at h3
      ((repeat ((conv => whnf); first | refine brT ?_ | refine brF ?_)); conv => whnf)
      refine fin ?_
      rw [eqList_no (k := k) (x := ps[k]) (y := qs[k]) (by simp [hlt]) (by simp [hlt2]) h3]
    · rw [notB_f] at h3
      ((repeat ((conv => whnf); first | refine brT ?_ | refine brF ?_)); conv => whnf)
      refine round_end (k + 1) ⟨hlt, he.succ (x := ps[k]) (y := qs[k]) (by simp [hlt]) (by simp [hlt2]) h3⟩ (by omega) ⟨?_, trivial, rfl, rfl⟩
      have e := step_i hlt hp'
      ((repeat ((conv => whnf); first | refine ⟨e, ?_⟩ | refine ⟨rfl, ?_⟩)); trivial)
  · have h3 : ps.length ≤ k := by rw [ltI_f] at h1; simp at h1; omega
    have h4 : k = ps.length := by omega
    subst h4
    ((repeat ((conv => whnf); first | refine brT ?_ | refine brF ?_)); conv => whnf)
    refine fin ?_
    rw [eqTo.all hl he]
def eqTyp (e : Int) (ss : List Pr) (f : Int) (ts : List Pr) : Bool := eqI e f && eqList Pr.eq ss ts
theorem eqKinType_spec (e : Int) (ss : List Pr) (f : Int) (ts : List Pr) : FSpec env.P 79 [typLV e ss, typLV f ts] (.bool (eqTyp e ss f ts)) := by
  refine FSpec_of_code env_ok (fn := Try.f79) Try.func79 rfl Try.call79 _ _ ?_
  ((repeat' (((repeat ((conv => whnf); first | refine brT ?_ | refine brF ?_)); conv => whnf); first | (refine And.intro ?_ ?_ <;> (intro h; rw [h]; revert h; intro _)) | (refine Exists.intro true (And.intro (a := drawB _ _ = true) (by kernel_rfl) ?_)) | (refine Exists.intro _ (And.intro (eqStepS_spec ss ts) ?_)))); all_goals ((repeat ((conv => whnf); first | refine brT ?_ | refine brF ?_)); conv => whnf))
  all_goals (refine fin ?_; simp_all [eqTyp, notB])
theorem eqTyp_refl (e : Int) (ss : List Pr) : eqTyp e ss e ss = true := by simp [eqTyp, eqI_refl, eqPairS_refl]

theorem markStepS_spec (ps : List Pr) (n : Nat) (hn : n = (ps.map Pr.lv).length) (k : Nat) (h1 : k + 2 * ps.length ≤ 2305843009213693952) :
    HSpec env.P 167 [.hs 0 n, .int .i64 (k : Int)] [.arr 159 2 (ps.map Pr.lv)] (.int .i64 ((k + 2 * ps.length : Nat) : Int)) [.arr 159 2 ((markPrs k ps.length).map Pr.lv)] := by
  subst hn
  refine HSpec_of_code (E := env.x [] 1) env_ok.x (fn := Try.f167) Try.func167 rfl Try.call167 _ _ _ _ ?_
  ((repeat ((conv => whnf); first | refine brT ?_ | refine brF ?_)); conv => whnf)
  refine loop_rule (α := Nat) (fun i => [(5, .int .i64 (i : Int)), (1, .int .i64 ((k + 2 * i : Nat) : Int)), (0, .hs 0 (rowQM k ps i).length)]) (fun i => [.arr 159 2 (rowQM k ps i)]) (fun i => ps.length - i) (fun i => i ≤ ps.length) 0 (Nat.zero_le _) ?_ ?_
  · have e0 : ps.map Pr.lv = rowQM k ps 0 := by simp [rowQM, markPrs]
    have e1 : LV.hs 0 (ps.map Pr.lv).length = LV.hs 0 (rowQM k ps 0).length := by rw [e0]
    refine ⟨?_, ⟨congrArg (Blk.arr 159 2) e0, trivial⟩, rfl, rfl⟩
    ((repeat ((conv => whnf); first | refine ⟨e1, ?_⟩ | refine ⟨rfl, ?_⟩)); trivial)
  intro i hi
  have hl := rowQM_len (k := k) hi
  ((repeat ((conv => whnf); first | refine brT ?_ | refine brF ?_)); conv => whnf)
  refine ⟨rfl, fun hm => ?_⟩
  have hm' : ps.length ≤ Go.maxLen := by rw [← hl]; exact hm
  ((repeat ((conv => whnf); first | refine brT ?_ | refine brF ?_)); conv => whnf)
  (refine ⟨fun g1 => ?_, fun g1 => ?_⟩ <;> rw [g1])
  · have hlt : i < ps.length := by rw [ltI_t] at g1; omega
    have e := step_i hlt hm'
    have hiL : i < (rowQM k ps i).length := by omega
    have hg := rowQM_get (k := k) hlt
    have hset := rowQM_set (k := k) hlt
    have w0 : IntKind.i64.wrap (((k + 2 * i : Nat) : Int) + 1) = ((k + 2 * i : Nat) : Int) + 1 := wrap64 (by omega) (by omega)
    have w3 : IntKind.i64.wrap (((k + 2 * i : Nat) : Int) + 1 + 1) = ((k + 2 * (i + 1) : Nat) : Int) := by rw [wrap64 (by omega) (by omega)]; omega
    have hlen : ∀ x : LV, (rowQM k ps i).length = ((rowQM k ps i).set i x).length := fun x => by simp
    generalize ps[i] = p at hg hset
    generalize hK : ((k + 2 * i : Nat) : Int) = kk at w0 w3 hset ⊢
    have hfin : (rowQM k ps i).set i (.st [.int .i64 kk, .int .i64 (kk + 1)]) = rowQM k ps (i + 1) := hset
    generalize rowQM k ps i = L at hl hm hiL hg hlen hfin g1 ⊢
    have hgp : getP (.st L) [i] = some (.st [LV.int .i64 p.a, LV.int .i64 p.b]) := by simp [getP, hg, Pr.lv]
    have hgp0 : getP (.st L) [i, 0] = some (.int .i64 p.a) := by simp [getP, hg, Pr.lv]
    ((repeat ((conv => whnf); first | refine brT ?_ | refine brF ?_)); conv => whnf)
    refine ⟨rfl, rfl, i, rfl, hiL, ?_⟩
    ((repeat ((conv => whnf); first | refine brT ?_ | refine brF ?_)); conv => whnf)
    refine ⟨rfl, by simp, [LV.int .i64 p.a, LV.int .i64 p.b], hgp, rfl, by simp, ?_⟩
    ((repeat ((conv => whnf); first | refine brT ?_ | refine brF ?_)); conv => whnf)
    refine ⟨rfl, i, [0], .int .i64 p.a, rfl, hgp0, rfl, rfl, rfl, L.set i (.st [.int .i64 kk, .int .i64 p.b]), by rw [hg]; rfl, ?_⟩
    ((repeat ((conv => whnf); first | refine brT ?_ | refine brF ?_)); conv => whnf)
    rw [w0]
    refine ⟨hlen _, rfl, i, rfl, by simpa using hiL, ?_⟩
    ((repeat ((conv => whnf); first | refine brT ?_ | refine brF ?_)); conv => whnf)
    refine ⟨hlen _, by simp, _, fw_get hiL _, rfl, by simp, ?_⟩
    ((repeat ((conv => whnf); first | refine brT ?_ | refine brF ?_)); conv => whnf)
    refine ⟨hlen _, i, [1], _, rfl, fw_get2 hiL rfl, rfl, rfl, rfl, _, fw_set hiL rfl (.int .i64 (kk + 1)), ?_⟩
    ((repeat ((conv => whnf); first | refine brT ?_ | refine brF ?_)); conv => whnf)
    have e5 : LV.hs 0 L.length = LV.hs 0 (rowQM k ps (i + 1)).length := by rw [hl, rowQM_len (by omega)]
    have e6 : LV.int .i64 (IntKind.i64.wrap (kk + 1 + 1)) = LV.int .i64 ((k + 2 * (i + 1) : Nat) : Int) := by rw [w3]
    refine round_end (i + 1) hlt (by omega) ⟨?_, ⟨congrArg (Blk.arr 159 2) hfin, trivial⟩, rfl, rfl⟩
    repeat ((conv => whnf); first | refine ⟨e, ?_⟩ | refine ⟨e6, ?_⟩ | refine ⟨e5, ?_⟩ | refine ⟨rfl, ?_⟩)
    trivial
  · have h3 : i = ps.length := by rw [ltI_f] at g1; omega
    subst h3
    ((repeat ((conv => whnf); first | refine brT ?_ | refine brF ?_)); conv => whnf)
    exact ⟨[.int .i64 ((k + 2 * ps.length : Nat) : Int)], rfl, rfl, .inl ⟨⟨rfl, trivial⟩, ⟨by simp [rowQM], trivial⟩, rfl, rfl⟩⟩
theorem heldStepS_spec (k n : Nat) (h1 : k + 2 * n ≤ 2305843009213693952) : FSpec env.P 168 [.sl ((markPrs k n).map Pr.lv), .int .i64 (k : Int)] (.int .i64 ((k + 2 * n : Nat) : Int)) := by
  refine FSpec_of_code env_ok (fn := Try.f168) Try.func168 rfl Try.call168 _ _ ?_
  have hl : (List.map Pr.lv (markPrs k n)).length = n := by simp [markPrs_len]
  ((repeat ((conv => whnf); first | refine brT ?_ | refine brF ?_)); conv => whnf)
  refine loop_rule (α := Nat) (fun i => [(5, .int .i64 (i : Int)), (1, .int .i64 ((k + 2 * i : Nat) : Int))]) (fun i => []) (fun i => n - i) (fun i => i ≤ n) 0 (Nat.zero_le _) ?_ ?_
  · refine ⟨?_, trivial, rfl, rfl⟩
    ((repeat ((conv => whnf); refine ⟨rfl, ?_⟩)); trivial)
  intro i hi
  ((repeat ((conv => whnf); first | refine brT ?_ | refine brF ?_)); conv => whnf)
  intro hm
  rw [hl] at hm
  ((repeat ((conv => whnf); first | refine brT ?_ | refine brF ?_)); conv => whnf)
  (refine ⟨fun g1 => ?_, fun g1 => ?_⟩ <;> rw [g1])
  · have hlt : i < n := by rw [ltI_t] at g1; omega
    have e := step_i hlt hm
    have hg : (List.map Pr.lv (markPrs k n))[i]? = some (.st [.int .i64 ((k + 2 * i : Nat) : Int), .int .i64 (((k + 2 * i : Nat) : Int) + 1)]) := by
      rw [List.getElem?_map, markPrs_get k n i hlt]; rfl
    have w0 : IntKind.i64.wrap (((k + 2 * i : Nat) : Int) + 1) = ((k + 2 * i : Nat) : Int) + 1 := wrap64 (by omega) (by omega)
    have w3 : IntKind.i64.wrap (((k + 2 * i : Nat) : Int) + 1 + 1) = ((k + 2 * (i + 1) : Nat) : Int) := by rw [wrap64 (by omega) (by omega)]; omega
    generalize hK : ((k + 2 * i : Nat) : Int) = kk at w0 w3 hg ⊢
    have e6 : LV.int .i64 (IntKind.i64.wrap (kk + 1 + 1)) = LV.int .i64 ((k + 2 * (i + 1) : Nat) : Int) := by rw [w3]
    ((repeat ((conv => whnf); first | refine brT ?_ | refine brF ?_)); conv => whnf)
    refine ⟨i, _, rfl, hg, rfl, ?_⟩
    ((repeat ((conv => whnf); first | refine brT ?_ | refine brF ?_)); conv => whnf)
    rw [show notB (eqI kk kk) = false by simp [notB, eqI]]
    ((repeat ((conv => whnf); first | refine brT ?_ | refine brF ?_)); conv => whnf)
    rw [w0]
    refine ⟨i, _, rfl, hg, rfl, ?_⟩
    ((repeat ((conv => whnf); first | refine brT ?_ | refine brF ?_)); conv => whnf)
    rw [show notB (eqI (kk + 1) (kk + 1)) = false by simp [notB, eqI]]
    ((repeat ((conv => whnf); first | refine brT ?_ | refine brF ?_)); conv => whnf)
    refine round_end (i + 1) hlt (by omega) ⟨?_, trivial, rfl, rfl⟩
    repeat ((conv => whnf); first | refine ⟨e, ?_⟩ | refine ⟨e6, ?_⟩ | refine ⟨rfl, ?_⟩)
    trivial
  · have h3 : i = n := by rw [ltI_f] at g1; omega
    subst h3
    ((repeat ((conv => whnf); first | refine brT ?_ | refine brF ?_)); conv => whnf)
    exact ⟨rfl, rfl, List.nodup_nil⟩
theorem markKinType_spec (e : Int) (ps : List Pr) (m : Nat) (hm : m = (ps.map Pr.lv).length) (k : Nat) (h1 : k + 2 * ps.length ≤ 2305843009213693952) :
    HSpec env.P 80 [typHS e 0 m, .int .i64 (k : Int)] [.arr 159 2 (ps.map Pr.lv)] (.int .i64 ((k + 2 * ps.length : Nat) : Int)) [.arr 159 2 ((markPrs k ps.length).map Pr.lv)] := by
  refine HSpec_of_code (E := env.x [167] 1) env_ok.x (fn := Try.f80) Try.func80 rfl Try.call80 _ _ _ _ ?_
  ((repeat ((conv => whnf); first | refine brT ?_ | refine brF ?_)); conv => whnf)
  refine ⟨[0], _, _, _, _, markStepS_spec ps m hm k h1, rfl, rfl, rfl, trivial, ?_⟩
  ((repeat ((conv => whnf); first | refine brT ?_ | refine brF ?_)); conv => whnf)
  exact ⟨[.int .i64 ((k + 2 * ps.length : Nat) : Int)], rfl, rfl, .inl ⟨⟨rfl, trivial⟩, ⟨rfl, trivial⟩, rfl, rfl⟩⟩
theorem heldKinType_spec (e : Int) (k n : Nat) (h1 : k + 2 * n ≤ 2305843009213693952) : FSpec env.P 81 [typLV e (markPrs k n), .int .i64 (k : Int)] (.int .i64 ((k + 2 * n : Nat) : Int)) := by
  refine FSpec_of_code env_ok (fn := Try.f81) Try.func81 rfl Try.call81 _ _ ?_
  ((repeat ((conv => whnf); first | refine brT ?_ | refine brF ?_)); conv => whnf)
  refine ⟨_, heldStepS_spec k n h1, ?_⟩
  ((repeat ((conv => whnf); first | refine brT ?_ | refine brF ?_)); conv => whnf)
  rw [show ltI ((k + 2 * n : Nat) : Int) 0 = false by rw [ltI_f]; omega]
  ((repeat ((conv => whnf); first | refine brT ?_ | refine brF ?_)); conv => whnf)
  exact ⟨rfl, rfl, List.nodup_nil⟩
end Go.Proofs.Ytdhmnojnkgmmnaa
