/- Contracts of functions of the program and of its model, told over readings. -/
import Derived.Test.YtpfipmjmblgjfaaFWGA
import Derived.Test.YtpfipmjmblgjfaaFLgMF
namespace Go.Proofs.Ytpfipmjmblgjfaa
open Go.Lg
set_option maxHeartbeats 1600000
set_option maxRecDepth 10000
set_option linter.unusedVariables false
set_option linter.unusedSimpArgs false

/-! ### The closure, by rows and place by place -/
def stepRow (k a : Nat) (P : Nat → Nat → Bool) : Nat → Nat → Bool := match P a k with | true => rowP P a (fun y => P a y || P k y) | false => P
def stepCell (k a b : Nat) (P : Nat → Nat → Bool) : Nat → Nat → Bool := match P a k && P k b with | true => putP P a b true | false => P
def roundR (N k : Nat) (P : Nat → Nat → Bool) : Nat → Nat → Bool := iter (stepRow k) N P
def roundC (N k : Nat) (P : Nat → Nat → Bool) : Nat → Nat → Bool := iter (fun a P => iter (stepCell k a) N P) N P
def viaP (k : Nat) (P : Nat → Nat → Bool) : Nat → Nat → Bool := fun a b => P a b || (P a k && P k b)
def closP (N : Nat) (P : Nat → Nat → Bool) : Nat → Nat → Bool := iter viaP N P

theorem iter_row (k : Nat) (P : Nat → Nat → Bool) : ∀ i, iter (stepRow k) i P = fun a b => if a < i then viaP k P a b else P a b
  | 0 => by funext a b; simp [iter]
  | i + 1 => by
    simp only [iter]
    rw [iter_row k P i]
    have hik : (if i < i then viaP k P i k else P i k) = P i k := by simp
    have hk : ∀ b, (if k < i then (P k b || (P k k && P k b)) else P k b) = P k b := fun b => by split <;> cases P k b <;> simp
    funext a b
    simp only [stepRow, hik]
    cases h : P i k
    · simp only []
      by_cases e : a = i
      · subst e; simp [viaP, h]
      · have : (a < i + 1) ↔ a < i := by omega
        simp only [this]
    · simp only [rowP]
      by_cases e : a = i
      · subst e; simp [viaP, h, hk]
      · have : (a < i + 1) ↔ a < i := by omega
        rw [if_neg e]
        simp only [this]
theorem stepCell_of {k a b : Nat} {P' P : Nat → Nat → Bool} (h1 : P' a k = P a k) (h2 : P' k b = P k b) : stepCell k a b P' = match P a k && P k b with | true => putP P' a b true | false => P' := by
  unfold stepCell; rw [h1, h2]
theorem iter_cell (k a : Nat) (P : Nat → Nat → Bool) : ∀ i, iter (stepCell k a) i P = fun x y => if x = a ∧ y < i then viaP k P x y else P x y
  | 0 => by funext x y; simp [iter]
  | i + 1 => by
    simp only [iter]
    rw [iter_cell k a P i]
    rw [stepCell_of (P := P) (by split <;> simp only [viaP] <;> cases P a k <;> simp) (by simp)]
    funext x y
    cases h : (P a k && P k i)
    · show (if x = a ∧ y < i then viaP k P x y else P x y) = _
      by_cases e : x = a ∧ y = i
      · obtain ⟨rfl, rfl⟩ := e; simp [viaP, h]
      · have : (x = a ∧ y < i + 1) ↔ (x = a ∧ y < i) := by
          constructor
          · rintro ⟨h1, h2⟩; exact ⟨h1, by rcases Nat.lt_or_ge y i with h | h; exact h; exact absurd ⟨h1, by omega⟩ e⟩
          · rintro ⟨h1, h2⟩; exact ⟨h1, by omega⟩
        simp only [this]
    · show (if x = a ∧ y = i then true else (if x = a ∧ y < i then viaP k P x y else P x y)) = _
      by_cases e : x = a ∧ y = i
      · obtain ⟨rfl, rfl⟩ := e; simp [viaP, h]
      · have : (x = a ∧ y < i + 1) ↔ (x = a ∧ y < i) := by
          constructor
          · rintro ⟨h1, h2⟩; exact ⟨h1, by rcases Nat.lt_or_ge y i with h | h; exact h; exact absurd ⟨h1, by omega⟩ e⟩
          · rintro ⟨h1, h2⟩; exact ⟨h1, by omega⟩
        rw [if_neg e]
        simp only [this]
theorem iter_cells (k N : Nat) (P : Nat → Nat → Bool) (hk : k < N) : ∀ j, iter (fun a P => iter (stepCell k a) N P) j P = fun x y => if x < j ∧ y < N then viaP k P x y else P x y
  | 0 => by funext x y; simp [iter]
  | j + 1 => by
    simp only [iter]
    rw [iter_cells k N P hk j, iter_cell]
    funext x y
    by_cases e : x = j ∧ y < N
    · obtain ⟨rfl, hy⟩ := e
      rw [if_pos ⟨rfl, hy⟩, if_pos ⟨by omega, hy⟩]
      simp only [viaP]
      have h1 : (if x < x ∧ y < N then P x y || (P x k && P k y) else P x y) = P x y := by simp
      have h2 : (if x < x ∧ k < N then P x k || (P x k && P k k) else P x k) = P x k := by simp
      have h3 : (if k < x ∧ y < N then P k y || (P k k && P k y) else P k y) = P k y := by split <;> simp
      rw [h1, h2, h3]
    · rw [if_neg e]
      have : (x < j + 1 ∧ y < N) ↔ (x < j ∧ y < N) := by
        constructor
        · rintro ⟨h1, h2⟩; exact ⟨by rcases Nat.lt_or_ge x j with h | h; exact h; exact absurd ⟨by omega, h2⟩ e, h2⟩
        · rintro ⟨h1, h2⟩; exact ⟨by omega, h2⟩
      simp only [this]
def sameP (N : Nat) (P Q : Nat → Nat → Bool) : Prop := ∀ a, a < N → ∀ b, b < N → P a b = Q a b
theorem closR (N : Nat) (P : Nat → Nat → Bool) : ∀ k, k ≤ N → sameP N (iter (roundR N) k P) (iter viaP k P)
  | 0, _ => fun a _ b _ => rfl
  | k + 1, h => fun a ha b hb => by
    have ih := closR N P k (by omega)
    simp only [iter, roundR, iter_row, viaP]
    rw [if_pos ha, ih a ha b hb, ih a ha k (by omega), ih k (by omega) b hb]
theorem closC (N : Nat) (P : Nat → Nat → Bool) : ∀ k, k ≤ N → sameP N (iter (roundC N) k P) (iter viaP k P)
  | 0, _ => fun a _ b _ => rfl
  | k + 1, h => fun a ha b hb => by
    have ih := closC N P k (by omega)
    simp only [iter, roundC]
    rw [iter_cells k N _ (by omega)]
    simp only [viaP]
    rw [if_pos ⟨ha, hb⟩, ih a ha b hb, ih a ha k (by omega), ih k (by omega) b hb]

theorem bitsP_has {N k : Nat} {p : Nat → Bool} (hk : k < N) : hasN (bitsP N p) (k : Int) = p k := by
  unfold hasN
  rw [Int.toNat_natCast, bitsP_bit]; simp [hk]
theorem stepRow_sets {N k a : Nat} {P : Nat → Nat → Bool} (h : P a k = true) : (setsP N P).set a (bitsP N (P a) ||| bitsP N (P k)) = setsP N (stepRow k a P) := by
  rw [setsP_set bitsP_or]
  simp only [stepRow, h]

end Go.Proofs.Ytpfipmjmblgjfaa
namespace Go.Proofs.Ytpfipmjmblgjfaa
open Go.Lg
set_option maxHeartbeats 1600000
set_option maxRecDepth 10000
set_option linter.unusedVariables false
set_option linter.unusedSimpArgs false

/-! ### Composition -/
/-- What is reached from a set over the rows of Q. -/
def onP (N : Nat) (p : Nat → Bool) (Q : Nat → Nat → Bool) : Nat → Bool := fun c => decide (∃ b, b < N ∧ p b = true ∧ Q b c = true)
def compP (N : Nat) (P Q : Nat → Nat → Bool) : Nat → Nat → Bool := fun a c => onP N (P a) Q c
def inTake (r : List Int) (i : Nat) : Nat → Bool := fun b => decide ((b : Int) ∈ r.take i)
theorem onP_succ {N : Nat} {r : List Int} {i b : Nat} {Q : Nat → Nat → Bool} (hi : i < r.length) (hb : r[i] = (b : Int)) (hbN : b < N) : (fun c => onP N (inTake r i) Q c || Q b c) = onP N (inTake r (i + 1)) Q := by
  funext c
  unfold onP inTake
  rw [List.take_succ_eq_append_getElem hi]
  rw [Bool.eq_iff_iff]
  simp only [Bool.or_eq_true, decide_eq_true_eq, List.mem_append, List.mem_singleton, hb]
  constructor
  · rintro (⟨b', h1, h2, h3⟩ | h)
    · exact ⟨b', h1, .inl h2, h3⟩
    · exact ⟨b, hbN, .inr rfl, h⟩
  · rintro ⟨b', h1, h2 | h2, h3⟩
    · exact .inl ⟨b', h1, h2, h3⟩
    · have : b' = b := by omega
      subst this; exact .inr h3
theorem onP_zero {N : Nat} {r : List Int} {Q : Nat → Nat → Bool} : onP N (inTake r 0) Q = fun _ => false := by funext c; simp [onP, inTake]

theorem comp_rows {n : Int} {rows : List (List Int)} (hr : RelIn n rows) (Q : Nat → Nat → Bool) : (rows.map fun r => bitsP rows.length (onP rows.length (inTake r r.length) Q)) = setsP rows.length (compP rows.length (relP rows) Q) := by
  apply List.ext_getElem
  · simp [setsP]
  · intro a h1 h2
    have ha : a < rows.length := by simpa using h1
    simp only [List.getElem_map, setsP, List.getElem_range]
    congr 1
    funext c
    unfold compP onP inTake relP
    have : rows.getD a [] = rows[a] := by simp [List.getD_eq_getElem?_getD, ha]
    rw [this, List.take_length]

end Go.Proofs.Ytpfipmjmblgjfaa
namespace Go.Proofs.Ytpfipmjmblgjfaa
open Go.Lg
set_option maxHeartbeats 1600000
set_option maxRecDepth 10000
set_option linter.unusedVariables false
set_option linter.unusedSimpArgs false

theorem lines_get {N a : Nat} {P : Nat → Nat → Bool} (h : a < N) : ((gridP N P).map lineOw)[a]? = some (lineOw (lineP N P a)) := by rw [List.getElem?_map, gridP_get h]; rfl
theorem linesS_get {N a : Nat} {P : Nat → Nat → Bool} (h : a < N) : ((gridP N P).map lineSl)[a]? = some (lineSl (lineP N P a)) := by rw [List.getElem?_map, gridP_get h]; rfl
theorem cell_get {N a b : Nat} {P : Nat → Nat → Bool} (h : b < N) : ((lineP N P a).map bLV)[b]? = some (.bool (P a b)) := by rw [List.getElem?_map, lineP_get h]; rfl
theorem lines_len {N : Nat} {P : Nat → Nat → Bool} : ((gridP N P).map lineOw).length = N := by rw [List.length_map, gridP_len]
theorem linesS_len {N : Nat} {P : Nat → Nat → Bool} : ((gridP N P).map lineSl).length = N := by rw [List.length_map, gridP_len]
theorem cells_len {N a : Nat} {P : Nat → Nat → Bool} : ((lineP N P a).map bLV).length = N := by rw [List.length_map, lineP_len]
theorem lines_put {N a b : Nat} {P : Nat → Nat → Bool} {v : Bool} : ((gridP N P).map lineOw).set a (lineOw (lineP N (putP P a b v) a)) = (gridP N (putP P a b v)).map lineOw := by rw [← gridP_put, List.map_set]
theorem lines_same {N a : Nat} {P : Nat → Nat → Bool} : ((gridP N P).map lineOw).set a (lineOw (lineP N P a)) = (gridP N P).map lineOw := by
  apply List.ext_getElem?
  intro i
  rw [List.getElem?_set]
  split
  · rename_i e; subst e
    split
    · rename_i h; rw [lines_len] at h; rw [lines_get h]
    · rename_i h; rw [List.getElem?_eq_none (by omega)]
  · rfl
theorem cells_put {N a b : Nat} {P : Nat → Nat → Bool} {v : Bool} : ((lineP N P a).map bLV).set b (.bool v) = (lineP N (putP P a b v) a).map bLV := by
  rw [← lineP_put, List.map_set]; rfl

end Go.Proofs.Ytpfipmjmblgjfaa
namespace Go.Proofs.Ytpfipmjmblgjfaa
open Go.Lg
set_option maxHeartbeats 1600000
set_option maxRecDepth 10000
set_option linter.unusedVariables false
set_option linter.unusedSimpArgs false

/-! ### Composition place by place -/
def cellC (P Q : Nat → Nat → Bool) (a b c : Nat) (R : Nat → Nat → Bool) : Nat → Nat → Bool := match P a b && Q b c with | true => putP R a c true | false => R
def compR (N : Nat) (P Q : Nat → Nat → Bool) : Nat → Nat → Bool := iter (fun a R => iter (fun b R => iter (cellC P Q a b) N R) N R) N (fun _ _ => false)
theorem iter_cellC (P Q R : Nat → Nat → Bool) (a b : Nat) : ∀ i, iter (cellC P Q a b) i R = fun x y => R x y || (decide (x = a ∧ y < i) && (P a b && Q b y))
  | 0 => by funext x y; simp [iter]
  | i + 1 => by
    simp only [iter]
    rw [iter_cellC P Q R a b i]
    funext x y
    unfold cellC
    cases h : (P a b && Q b i)
    · show (R x y || (decide (x = a ∧ y < i) && (P a b && Q b y))) = _
      congr 1
      by_cases e : x = a ∧ y = i
      · obtain ⟨rfl, rfl⟩ := e; simp only [h]; simp
      · have : (x = a ∧ y < i + 1) ↔ (x = a ∧ y < i) := by
          constructor
          · rintro ⟨h1, h2⟩; exact ⟨h1, by rcases Nat.lt_or_ge y i with h | h; exact h; exact absurd ⟨h1, by omega⟩ e⟩
          · rintro ⟨h1, h2⟩; exact ⟨h1, by omega⟩
        simp only [this]
    · show (if x = a ∧ y = i then true else (R x y || (decide (x = a ∧ y < i) && (P a b && Q b y)))) = _
      by_cases e : x = a ∧ y = i
      · obtain ⟨rfl, rfl⟩ := e; rw [if_pos ⟨rfl, rfl⟩, h]; simp
      · rw [if_neg e]
        have : (x = a ∧ y < i + 1) ↔ (x = a ∧ y < i) := by
          constructor
          · rintro ⟨h1, h2⟩; exact ⟨h1, by rcases Nat.lt_or_ge y i with h | h; exact h; exact absurd ⟨h1, by omega⟩ e⟩
          · rintro ⟨h1, h2⟩; exact ⟨h1, by omega⟩
        simp only [this]
theorem iter_cellB (N : Nat) (P Q R : Nat → Nat → Bool) (a : Nat) : ∀ j, iter (fun b R => iter (cellC P Q a b) N R) j R = fun x y => R x y || (decide (x = a ∧ y < N) && decide (∃ b, b < j ∧ P a b = true ∧ Q b y = true))
  | 0 => by funext x y; simp [iter]
  | j + 1 => by
    simp only [iter]
    rw [iter_cellB N P Q R a j, iter_cellC]
    funext x y
    rw [Bool.or_assoc]
    congr 1
    rw [Bool.eq_iff_iff]
    simp only [Bool.or_eq_true, Bool.and_eq_true, decide_eq_true_eq]
    constructor
    · rintro (⟨h1, b, h2, h3⟩ | ⟨h1, h2⟩)
      · exact ⟨h1, b, by omega, h3⟩
      · exact ⟨h1, j, by omega, h2⟩
    · rintro ⟨h1, b, h2, h3⟩
      rcases Nat.lt_or_ge b j with h | h
      · exact .inl ⟨h1, b, h, h3⟩
      · have : b = j := by omega
        subst this; exact .inr ⟨h1, h3⟩
theorem iter_cellA (N : Nat) (P Q : Nat → Nat → Bool) : ∀ k, iter (fun a R => iter (fun b R => iter (cellC P Q a b) N R) N R) k (fun _ _ => false) = fun x y => decide (x < k ∧ y < N) && compP N P Q x y
  | 0 => by funext x y; simp [iter]
  | k + 1 => by
    simp only [iter]
    rw [iter_cellA N P Q k, iter_cellB]
    funext x y
    unfold compP onP
    rw [Bool.eq_iff_iff]
    simp only [Bool.or_eq_true, Bool.and_eq_true, decide_eq_true_eq]
    constructor
    · rintro (⟨⟨h1, h2⟩, h3⟩ | ⟨⟨rfl, h2⟩, h3⟩)
      · exact ⟨⟨by omega, h2⟩, h3⟩
      · exact ⟨⟨by omega, h2⟩, h3⟩
    · rintro ⟨⟨h1, h2⟩, h3⟩
      rcases Nat.lt_or_ge x k with h | h
      · exact .inl ⟨⟨h, h2⟩, h3⟩
      · have : x = k := by omega
        subst this; exact .inr ⟨⟨rfl, h2⟩, h3⟩
theorem compR_rows (N : Nat) (P Q : Nat → Nat → Bool) : gridP N (compR N P Q) = gridP N (compP N P Q) := gridP_ext fun a ha b hb => by
  unfold compR
  rw [iter_cellA]
  simp [ha, hb]

end Go.Proofs.Ytpfipmjmblgjfaa
namespace Go.Proofs.Ytpfipmjmblgjfaa
open Go.Lg
set_option maxHeartbeats 1600000
set_option maxRecDepth 10000
set_option linter.unusedVariables false
set_option linter.unusedSimpArgs false

/-- Combined place by place: those before (k, i) are done. -/
def mxP (f : Bool → Bool → Bool) (P Q : Nat → Nat → Bool) (k i : Nat) : Nat → Nat → Bool := fun a b => if a < k ∨ (a = k ∧ b < i) then f (P a b) (Q a b) else P a b
theorem mxP_zero {f : Bool → Bool → Bool} {P Q : Nat → Nat → Bool} : mxP f P Q 0 0 = P := by funext a b; simp [mxP]
theorem mxP_put {f : Bool → Bool → Bool} {P Q : Nat → Nat → Bool} {k i : Nat} : putP (mxP f P Q k i) k i (f (P k i) (Q k i)) = mxP f P Q k (i + 1) := by
  funext a b
  simp only [putP, mxP]
  by_cases e : a = k ∧ b = i
  · obtain ⟨rfl, rfl⟩ := e; simp
  · rw [if_neg e]
    have : (a < k ∨ (a = k ∧ b < i)) ↔ (a < k ∨ (a = k ∧ b < i + 1)) := by
      constructor
      · rintro (h | ⟨h, h'⟩)
        · exact .inl h
        · exact .inr ⟨h, by omega⟩
      · rintro (h | ⟨h, h'⟩)
        · exact .inl h
        · exact .inr ⟨h, by rcases Nat.lt_or_ge b i with h2 | h2; exact h2; exact absurd ⟨h, by omega⟩ e⟩
    simp only [this]
theorem mxP_at {f : Bool → Bool → Bool} {P Q : Nat → Nat → Bool} {k i : Nat} : mxP f P Q k i k i = P k i := by simp [mxP]
theorem mxP_row {f : Bool → Bool → Bool} {P Q : Nat → Nat → Bool} {N k : Nat} : gridP N (mxP f P Q k N) = gridP N (mxP f P Q (k + 1) 0) := gridP_ext fun a _ b hb => by
  simp only [mxP]
  have : (a < k ∨ (a = k ∧ b < N)) ↔ (a < k + 1 ∨ (a = k + 1 ∧ b < 0)) := by omega
  simp only [this]
theorem mxP_all {f : Bool → Bool → Bool} {P Q : Nat → Nat → Bool} {N : Nat} : relRows N (mxP f P Q N 0) = relRows N (allP f P Q) := relRows_ext fun a ha b _ => by simp [mxP, allP, ha]

theorem mx_cells {f : Bool → Bool → Bool} {P Q : Nat → Nat → Bool} {N k i : Nat} {v : Bool} (ev : f (P k i) (Q k i) = v) : ((lineP N (mxP f P Q k i) k).map bLV).set i (.bool v) = (lineP N (mxP f P Q k (i + 1)) k).map bLV := by
  subst ev
  rw [← mxP_put]; exact cells_put
end Go.Proofs.Ytpfipmjmblgjfaa
namespace Go.Proofs.Ytpfipmjmblgjfaa
open Go.Lg
set_option maxHeartbeats 1600000
set_option maxRecDepth 10000
set_option linter.unusedVariables false
set_option linter.unusedSimpArgs false

end Go.Proofs.Ytpfipmjmblgjfaa
namespace Go.Proofs.Ytpfipmjmblgjfaa
open Go.Lg
set_option maxHeartbeats 1600000
set_option maxRecDepth 10000
set_option linter.unusedVariables false
set_option linter.unusedSimpArgs false

theorem prTo_end (rows : List (List Int)) : prTo rows rows.length 0 = prFrom 0 rows := by rw [prTo_zero, List.take_length]

end Go.Proofs.Ytpfipmjmblgjfaa
namespace Go.Proofs.Ytpfipmjmblgjfaa
open Go.Lg
set_option maxHeartbeats 1600000
set_option maxRecDepth 10000
set_option linter.unusedVariables false
set_option linter.unusedSimpArgs false

end Go.Proofs.Ytpfipmjmblgjfaa
namespace Go.Proofs.Ytpfipmjmblgjfaa
open Go.Lg
set_option maxHeartbeats 1600000
set_option maxRecDepth 10000
set_option linter.unusedVariables false
set_option linter.unusedSimpArgs false

/-! A row whose element i is written field by field. -/
section
variable {L : List LV} {i : Nat}
theorem fw_get (h : i < L.length) (fs : List LV) : getP (.st (L.set i (.st fs))) [i] = some (.st fs) := by simp [getP, h]
theorem fw_get2 (h : i < L.length) {fs : List LV} {f : Nat} {x : LV} (hx : fs[f]? = some x) : getP (.st (L.set i (.st fs))) [i, f] = some x := by simp [getP, h, hx]
theorem fw_set (h : i < L.length) {fs : List LV} {f : Nat} {x : LV} (hx : fs[f]? = some x) (v : LV) :
    (match (L.set i (.st fs))[i]? with | some z => (L.set i (.st fs)).set i (setP z [f] v) | none => L.set i (.st fs)) = L.set i (.st (fs.set f v)) := by
  have : (L.set i (.st fs))[i]? = some (.st fs) := by simp [h]
  rw [this]
  simp only [setP, hx]
  cases x <;> simp [List.set_set]
theorem fw_self (h : i < L.length) {fs : List LV} (hx : L[i]? = some (.st fs)) : L = L.set i (.st fs) := by
  apply List.ext_getElem?
  intro j
  rw [List.getElem?_set]
  split
  · rename_i e; subst e; exact hx
  · rfl
end

def markPer (k : Nat) : Per := ⟨mText k, (k : Int) + 1, (k : Int) + 2, (k : Int) + 3, (k : Int) + 4, (k : Int) + 5⟩
def markPers (k : Nat) : Nat → List Per
  | 0 => []
  | n + 1 => markPers k n ++ [markPer (k + 6 * n)]
theorem markPers_len (k : Nat) : ∀ n, (markPers k n).length = n
  | 0 => rfl
  | n + 1 => by simp [markPers, markPers_len k n]
def rowPM (k : Nat) (ps : List Per) (i : Nat) : List LV := (markPers k i ++ ps.drop i).map Per.lv
theorem rowPM_len {k : Nat} {ps : List Per} {i : Nat} (h : i ≤ ps.length) : (rowPM k ps i).length = ps.length := by simp [rowPM, markPers_len]; omega
theorem rowPM_get {k : Nat} {ps : List Per} {i : Nat} (h : i < ps.length) : (rowPM k ps i)[i]? = some ps[i].lv := by
  unfold rowPM
  rw [List.getElem?_map, List.getElem?_append_right (by rw [markPers_len]; exact Nat.le_refl _), markPers_len, Nat.sub_self, List.getElem?_drop, Nat.add_zero, List.getElem?_eq_getElem h]
  rfl
theorem rowPM_set {k : Nat} {ps : List Per} {i : Nat} (h : i < ps.length) : (rowPM k ps i).set i (markPer (k + 6 * i)).lv = rowPM k ps (i + 1) := by
  unfold rowPM
  rw [List.drop_eq_getElem_cons h, List.map_append, List.map_cons, List.set_append_right _ _ (by simp [markPers_len])]
  simp [markPers, markPers_len]

end Go.Proofs.Ytpfipmjmblgjfaa
namespace Go.Proofs.Ytpfipmjmblgjfaa
open Go.Lg
set_option maxHeartbeats 1600000
set_option maxRecDepth 10000
set_option linter.unusedVariables false
set_option linter.unusedSimpArgs false

def Pr.eq (p q : Pr) : Bool := eqI p.a q.a && eqI p.b q.b
theorem Pr.eq_refl (p : Pr) : p.eq p = true := by simp [Pr.eq, eqI_refl]
theorem eqPairS_refl (ps : List Pr) : eqList Pr.eq ps ps = true := eqList_refl Pr.eq_refl ps

def markPrs (k : Nat) : Nat → List Pr
  | 0 => []
  | n + 1 => markPrs k n ++ [⟨((k + 2 * n : Nat) : Int), ((k + 2 * n : Nat) : Int) + 1⟩]
theorem markPrs_len (k : Nat) : ∀ n, (markPrs k n).length = n
  | 0 => rfl
  | n + 1 => by simp [markPrs, markPrs_len k n]
theorem markPrs_get (k : Nat) : ∀ (n i : Nat), i < n → (markPrs k n)[i]? = some ⟨((k + 2 * i : Nat) : Int), ((k + 2 * i : Nat) : Int) + 1⟩
  | 0, i, h => by omega
  | n + 1, i, h => by
    simp only [markPrs]
    by_cases e : i = n
    · subst e; rw [List.getElem?_append_right (by rw [markPrs_len]; exact Nat.le_refl _), markPrs_len]; simp
    · rw [List.getElem?_append_left (by rw [markPrs_len]; omega)]; exact markPrs_get k n i (by omega)
def rowQM (k : Nat) (ps : List Pr) (i : Nat) : List LV := (markPrs k i ++ ps.drop i).map Pr.lv
theorem rowQM_len {k : Nat} {ps : List Pr} {i : Nat} (h : i ≤ ps.length) : (rowQM k ps i).length = ps.length := by simp [rowQM, markPrs_len]; omega
theorem rowQM_get {k : Nat} {ps : List Pr} {i : Nat} (h : i < ps.length) : (rowQM k ps i)[i]? = some ps[i].lv := by
  unfold rowQM
  rw [List.getElem?_map, List.getElem?_append_right (by rw [markPrs_len]; exact Nat.le_refl _), markPrs_len, Nat.sub_self, List.getElem?_drop, Nat.add_zero, List.getElem?_eq_getElem h]
  rfl
theorem rowQM_set {k : Nat} {ps : List Pr} {i : Nat} (h : i < ps.length) : (rowQM k ps i).set i (Pr.lv ⟨((k + 2 * i : Nat) : Int), ((k + 2 * i : Nat) : Int) + 1⟩) = rowQM k ps (i + 1) := by
  unfold rowQM
  rw [List.drop_eq_getElem_cons h, List.map_append, List.map_cons, List.set_append_right _ _ (by simp [markPrs_len])]
  simp [markPrs, markPrs_len]

end Go.Proofs.Ytpfipmjmblgjfaa
namespace Go.Proofs.Ytpfipmjmblgjfaa
open Go.Lg
set_option maxHeartbeats 1600000
set_option maxRecDepth 10000
set_option linter.unusedVariables false
set_option linter.unusedSimpArgs false

/-! ### Wrappers of the model -/
/-- A relation made, handed out with its rows frozen. -/
theorem rel_f {F : Nat} {args : List LV} {N : Nat} {R : List (List Int)} (h : HSpec env.P F args [] (relHS N 0 (R.map rowOw).length) [.tree 22 1 (R.map rowOw)]) : FSpec env.P F args (.st [.int .i64 (N : Int), .own 22 1 (R.map rowSl)]) :=
  FSpec_of_tree h (by
    simp only [relHS, exW, exsW]
    exact ⟨trivial, trivial, by rw [dms_rows]; simp, rfl, rfl, dms_rows _, by simp⟩)

/-! ### Equality -/
/-- Whether two valid relations of one size are equal. -/
def relEq (n : Int) (rows : List (List Int)) (m : Int) (rows' : List (List Int)) : Bool := alike n rows m rows' && decide (rows = rows')

def eqU (a b : Nat) : Bool := eqI (a : Int) (b : Int)
theorem eqU_t {a b : Nat} : eqU a b = true ↔ a = b := by unfold eqU; rw [eqI_t]; omega
theorem eqList_iff {α : Type} {f : α → α → Bool} (hf : ∀ a b, f a b = true ↔ a = b) : ∀ (ps qs : List α), eqList f ps qs = true ↔ ps = qs
  | [], [] => by simp [eqList]
  | [], _ :: _ => by simp [eqList]
  | _ :: _, [] => by simp [eqList]
  | x :: xs, y :: ys => by
    simp only [eqList, Bool.and_eq_true, hf, eqList_iff hf xs ys, List.cons.injEq]
theorem sets_eq {n : Int} {rows rows' : List (List Int)} (hr : RelIn n rows) (hs : RelIn n rows') (hl : rows'.length = rows.length) :
    eqList eqU (setsP rows.length (relP rows)) (setsP rows.length (relP rows')) = decide (rows = rows') := by
  rw [Bool.eq_iff_iff, eqList_iff (fun a b => eqU_t), decide_eq_true_eq]
  constructor
  · intro h
    have e1 := setsP_rows (n := rows.length) (P := relP rows) hr.size
    have e2 := setsP_rows (n := rows.length) (P := relP rows') hr.size
    have h1 : RelIn (rows.length : Int) rows := by have := hr.len; rw [this]; exact hr
    have h2 : RelIn (rows.length : Int) rows' := by have := hr.len; rw [this]; exact hs
    rw [rows_eq h1, rows_eq h2, ← e1, ← e2, h]
  · rintro rfl; rfl
theorem grid_eq {n : Int} {rows rows' : List (List Int)} (hr : RelIn n rows) (hs : RelIn n rows') (hl : rows'.length = rows.length) :
    decide (∀ a, a < rows.length → ∀ b, b < rows.length → relP rows a b = relP rows' a b) = decide (rows = rows') := by
  rw [decide_eq_decide]
  constructor
  · intro h
    have h1 : RelIn (rows.length : Int) rows := by have := hr.len; rw [this]; exact hr
    have h2 : RelIn (rows.length : Int) rows' := by have := hr.len; rw [this]; exact hs
    rw [rows_eq h1, rows_eq h2, relRows_ext h]
  · rintro rfl; exact fun _ _ _ _ => rfl
end Go.Proofs.Ytpfipmjmblgjfaa
namespace Go.Proofs.Ytpfipmjmblgjfaa
open Go.Lg
set_option maxHeartbeats 1600000
set_option maxRecDepth 10000
set_option linter.unusedVariables false
set_option linter.unusedSimpArgs false

theorem flats_prs : ∀ xs : List Pr, flatsB (xs.map Pr.lv) = true
  | [] => rfl
  | x :: xs => by simp [flatsB, flatB, Pr.lv]; exact flats_prs xs

end Go.Proofs.Ytpfipmjmblgjfaa
namespace Go.Proofs.Ytpfipmjmblgjfaa
open Go.Lg
set_option maxHeartbeats 1600000
set_option maxRecDepth 10000
set_option linter.unusedVariables false
set_option linter.unusedSimpArgs false

theorem mem_prFrom : ∀ (rows : List (List Int)) (a0 : Nat) (p : Pr), p ∈ prFrom a0 rows ↔ ∃ i : Nat, i < rows.length ∧ p.a = ((a0 + i : Nat) : Int) ∧ p.b ∈ rows.getD i []
  | [], a0, p => by simp [prFrom]
  | r :: rs, a0, p => by
    simp only [prFrom, List.mem_append, mem_prFrom rs (a0 + 1) p]
    constructor
    · rintro (h | ⟨i, h1, h2, h3⟩)
      · obtain ⟨b, hb, rfl⟩ := List.mem_map.1 h
        exact ⟨0, by simp, by simp, by simpa using hb⟩
      · exact ⟨i + 1, by simp; omega, by rw [h2]; congr 1; omega, by simpa using h3⟩
    · rintro ⟨i, h1, h2, h3⟩
      cases i with
      | zero =>
        left
        refine List.mem_map.2 ⟨p.b, by simpa using h3, ?_⟩
        cases p; simp at h2 ⊢; exact h2.symm
      | succ i => right; exact ⟨i, by simpa using h1, by rw [h2]; congr 1; omega, by simpa using h3⟩

/-- Whether what is related in the one is related in the other. -/
def relWithin (n : Int) (rows : List (List Int)) (m : Int) (rows' : List (List Int)) : Bool :=
  alike n rows m rows' && decide (∀ a, a < rows.length → ∀ b, b < rows.length → relP rows a b = true → relP rows' a b = true)

theorem less_none {N : Nat} {P Q : Nat → Nat → Bool} (hN : N ≤ 40) : eqI ((pairsL N (relRows N (allP (fun x y => x && !y) P Q))).length : Int) 0 = decide (∀ a, a < N → ∀ b, b < N → P a b = true → Q a b = true) := by
  have hin := relRows_in (n := N) (P := allP (fun x y => x && !y) P Q) hN
  have e : pairsL N (relRows N (allP (fun x y => x && !y) P Q)) = prFrom 0 (relRows N (allP (fun x y => x && !y) P Q)) := by unfold pairsL; rw [relOk_of hin]
  rw [e, Bool.eq_iff_iff, eqI_t, decide_eq_true_eq]
  constructor
  · intro h a ha b hb hp
    cases hq : Q a b
    · exfalso
      have hz : prFrom 0 (relRows N (allP (fun x y => x && !y) P Q)) = [] := List.eq_nil_of_length_eq_zero (by omega)
      have hm : (⟨(a : Int), (b : Int)⟩ : Pr) ∈ prFrom 0 (relRows N (allP (fun x y => x && !y) P Q)) :=
        (mem_prFrom _ 0 _).2 ⟨a, by rw [relRows_len]; exact ha, by simp, (relRows_mem ha).2 ⟨hb, by simp [allP, hp, hq]⟩⟩
      rw [hz] at hm
      simp at hm
    · rfl
  · intro h
    have : prFrom 0 (relRows N (allP (fun x y => x && !y) P Q)) = [] := by
      rw [List.eq_nil_iff_forall_not_mem]
      intro p hp
      obtain ⟨i, h1, h2, h3⟩ := (mem_prFrom _ 0 p).1 hp
      rw [relRows_len] at h1
      have hr : (relRows N (allP (fun x y => x && !y) P Q)).getD i [] ∈ relRows N (allP (fun x y => x && !y) P Q) := by
        have : i < (relRows N (allP (fun x y => x && !y) P Q)).length := by rw [relRows_len]; exact h1
        rw [List.getD_eq_getElem?_getD, List.getElem?_eq_getElem this]; exact List.getElem_mem this
      obtain ⟨b0, b1, _⟩ := hin.mem hr h3
      obtain ⟨b, hb⟩ : ∃ b : Nat, p.b = (b : Int) := ⟨p.b.toNat, by omega⟩
      rw [hb, relRows_mem h1] at h3
      have := h i h1 b h3.1
      simp only [allP, Bool.and_eq_true, Bool.not_eq_true'] at h3
      rw [this h3.2.1] at h3
      simp at h3
    rw [this]; rfl

end Go.Proofs.Ytpfipmjmblgjfaa
namespace Go.Proofs.Ytpfipmjmblgjfaa
open Go.Lg
set_option maxHeartbeats 1600000
set_option maxRecDepth 10000
set_option linter.unusedVariables false
set_option linter.unusedSimpArgs false

theorem tot_relRows {N : Nat} {P : Nat → Nat → Bool} (hN : N ≤ 40) : tot (relRows N P) ≤ 1600 := (relRows_in hN).tot
theorem rsN_le {n : Int} {rows : List (List Int)} : rsN (relOk n rows) rows ≤ 40 := by
  cases h : relOk n rows
  · simp [rsN]
  · exact (relIn_of h).size
theorem rsN_le2 {n : Int} {rows : List (List Int)} {m : Int} {rows' : List (List Int)} : rsN (alike n rows m rows') rows ≤ 40 := by
  cases h : alike n rows m rows'
  · simp [rsN]
  · exact (alike_in h).1.size

end Go.Proofs.Ytpfipmjmblgjfaa
namespace Go.Proofs.Ytpfipmjmblgjfaa
open Go.Lg
set_option maxHeartbeats 1600000
set_option maxRecDepth 10000
set_option linter.unusedVariables false
set_option linter.unusedSimpArgs false

def zPr : LV := .st [.int .i64 0, .int .i64 0]
abbrev shPairs : Sh := .sl (.st [.int .i64, .int .i64])
theorem prs_of : ∀ (xs : List LV), (∀ x ∈ xs, hasSh (.st [.int .i64, .int .i64]) x) → ∃ ps : List Pr, xs = ps.map Pr.lv
  | [], _ => ⟨[], rfl⟩
  | x :: xs, h => by
    obtain ⟨ps, rfl⟩ := prs_of xs fun y hy => h y (by simp [hy])
    have h1 := h x (by simp)
    simp only [hasSh] at h1
    obtain ⟨ys, rfl, h2⟩ := h1
    match ys, h2 with
    | [a, b], h2 =>
      simp only [hasShs, hasSh] at h2
      obtain ⟨⟨a, rfl⟩, ⟨b, rfl⟩, _⟩ := h2
      exact ⟨⟨a, b⟩ :: ps, rfl⟩
    | [], h2 => simp [hasShs] at h2
    | [_], h2 => simp [hasShs] at h2
    | _ :: _ :: _ :: _, h2 => simp [hasShs] at h2
theorem pairs_of_sh {x : LV} (h : hasSh shPairs x) : ∃ ps : List Pr, x = .sl (ps.map Pr.lv) ∧ ps.length ≤ Go.maxLen := by
  simp only [hasSh] at h
  obtain ⟨xs, rfl, hl, h⟩ := h
  obtain ⟨ps, rfl⟩ := prs_of xs fun x hx => by simp only [hasSh]; exact h x hx
  exact ⟨ps, rfl, by simpa using hl⟩

/-- What pairs say, the first k of them. -/
def prTk (ps : List Pr) (k : Nat) : Nat → Nat → Bool := fun a b => decide (∃ p ∈ ps.take k, p.a = (a : Int) ∧ p.b = (b : Int))
def prInB (n : Int) (p : Pr) : Bool := (leI 0 p.a && ltI p.a n) && (leI 0 p.b && ltI p.b n)
def prOk (n : Int) (ps : List Pr) : Bool := (leI 0 n && leI n 40) && ps.all (prInB n)
def prN (n : Int) (ps : List Pr) : Nat := match prOk n ps with | true => n.toNat | false => 0
theorem prTk_zero (ps : List Pr) : prTk ps 0 = fun _ _ => false := by funext a b; simp [prTk]
theorem prTk_succ {ps : List Pr} {k a b : Nat} (hk : k < ps.length) (e : ps[k] = ⟨(a : Int), (b : Int)⟩) : putP (prTk ps k) a b true = prTk ps (k + 1) := by
  funext x y
  have ht : ps.take (k + 1) = ps.take k ++ [⟨(a : Int), (b : Int)⟩] := by rw [List.take_succ_eq_append_getElem hk, e]
  unfold putP prTk
  by_cases h : x = a ∧ y = b
  · obtain ⟨rfl, rfl⟩ := h
    rw [if_pos ⟨rfl, rfl⟩]
    exact (decide_eq_true ⟨⟨(x : Int), (y : Int)⟩, by rw [ht]; simp, rfl, rfl⟩).symm
  · rw [if_neg h, decide_eq_decide]
    constructor
    · rintro ⟨p, h1, h2⟩; exact ⟨p, by rw [ht]; exact List.mem_append_left _ h1, h2⟩
    · rintro ⟨p, h1, h2, h3⟩
      rw [ht, List.mem_append, List.mem_singleton] at h1
      rcases h1 with h1 | rfl
      · exact ⟨p, h1, h2, h3⟩
      · exact absurd ⟨by simp at h2; omega, by simp at h3; omega⟩ h
theorem prInB_nat {N : Nat} {p : Pr} (h : prInB (N : Int) p = true) : ∃ a b : Nat, p = ⟨(a : Int), (b : Int)⟩ ∧ a < N ∧ b < N := by
  unfold prInB at h
  simp only [Bool.and_eq_true, leI_t, ltI_t] at h
  cases p with
  | mk pa pb => exact ⟨pa.toNat, pb.toNat, by simp at h ⊢; omega, by simp at h; omega, by simp at h; omega⟩
theorem prNo {n : Int} {ps : List Pr} {p : Pr} (hp : p ∈ ps) (h : prInB n p = false) : prOk n ps = false := by
  unfold prOk
  rw [Bool.and_eq_false_iff]
  right
  rw [List.all_eq_false]
  exact ⟨p, hp, by rw [h]; simp⟩
theorem prSz {n : Int} {ps : List Pr} (h : notB (leI 0 n && leI n 40) = true) : prOk n ps = false := by
  unfold prOk; rw [notB_t] at h; rw [h]; rfl

theorem prN_le {n : Int} {ps : List Pr} : prN n ps ≤ 40 := by
  unfold prN
  split
  · rename_i h
    unfold prOk at h
    simp only [Bool.and_eq_true, leI_t] at h
    omega
  · omega

end Go.Proofs.Ytpfipmjmblgjfaa
namespace Go.Proofs.Ytpfipmjmblgjfaa
open Go.Lg
set_option maxHeartbeats 1600000
set_option maxRecDepth 10000
set_option linter.unusedVariables false
set_option linter.unusedSimpArgs false

/-! A step is a pair: its kind and its age. -/
def typLV (e : Int) (ss : List Pr) : LV := .st [.int .i64 e, .sl (ss.map Pr.lv)]
def typHS (e : Int) (a m : Nat) : LV := .st [.int .i64 e, .hs a m]

theorem toStep_spec (p : Pr) : FSpec env.P 164 [p.lv] p.lv := by
  refine FSpec_of_code env_ok (fn := Try.f164) Try.func164 rfl Try.call164 _ _ ?_
  ((repeat ((conv => whnf); first | refine brT ?_ | refine brF ?_)); conv => whnf)
  refine ⟨_, rfl, rfl, ?_⟩
  repeat ((conv => whnf); refine ⟨rfl, ?_⟩)
  exact List.nodup_nil
def zStp : LV := .st [.int .i64 0, .int .i64 0]
theorem toStepS_h (ps : List Pr) (hb : 16 * ps.length ≤ 281474976710656) : HSpec env.P 112 [.sl (ps.map Pr.lv)] [] (.hs 0 (ps.map Pr.lv).length) [.arr 112 2 (ps.map Pr.lv)] := by
  refine HSpec_of_code (E := env.x [] 0) env_ok.x (fn := Try.f112) Try.func112 rfl Try.call112 _ _ _ _ ?_
  ((repeat ((conv => whnf); first | refine brT ?_ | refine brF ?_)); conv => whnf)
  intro hp
  have hp' : ps.length ≤ Go.maxLen := by simpa using hp
  ((repeat ((conv => whnf); first | refine brT ?_ | refine brF ?_)); conv => whnf)
  refine ⟨ps.length, by simp, by simp, hb, hp', rfl, by decide, ?_⟩
  ((repeat ((conv => whnf); first | refine brT ?_ | refine brF ?_)); conv => whnf)
  refine loop_rule (α := Nat) (fun k => [(4, .int .i64 (k : Int))]) (fun k => [.arr 112 2 (fillLV Pr.lv zStp ps k)]) (fun k => ps.length - k) (fun k => k ≤ ps.length) 0 (Nat.zero_le _) ?_ ?_
  · refine ⟨?_, ⟨by simp [zStp, fillLV], trivial⟩, rfl, rfl⟩
    ((repeat ((conv => whnf); refine ⟨rfl, ?_⟩)); trivial)
  rintro k hk
  ((repeat ((conv => whnf); first | refine brT ?_ | refine brF ?_)); conv => whnf)
  intro _
  ((repeat ((conv => whnf); first | refine brT ?_ | refine brF ?_)); conv => whnf)
  (refine ⟨fun h1 => ?_, fun h1 => ?_⟩ <;> rw [h1])
  · have hlt : k < ps.length := by rw [ltI_t] at h1; simp at h1; omega
    ((repeat ((conv => whnf); first | refine brT ?_ | refine brF ?_)); conv => whnf)
    refine ⟨k, ps[k].lv, rfl, by simp [hlt], rfl, ?_⟩
    ((repeat ((conv => whnf); first | refine brT ?_ | refine brF ?_)); conv => whnf)
    refine ⟨_, toStep_spec ps[k], ?_⟩
    ((repeat ((conv => whnf); first | refine brT ?_ | refine brF ?_)); conv => whnf)
    refine ⟨(fill_len hk).symm, rfl, k, rfl, by rw [fill_len hk]; exact hlt, ?_⟩
    ((repeat ((conv => whnf); first | refine brT ?_ | refine brF ?_)); conv => whnf)
    refine ⟨(fill_len hk).symm, k, [], zStp, rfl, by simp [getP, fill_get hlt], rfl, rfl, rfl, fillLV Pr.lv zStp ps (k + 1), by rw [fill_get hlt]; exact fill_set hlt, ?_⟩
    ((repeat ((conv => whnf); first | refine brT ?_ | refine brF ?_)); conv => whnf)
    refine round_end (k + 1) hlt (by omega) ⟨?_, ⟨rfl, trivial⟩, rfl, rfl⟩
    have e := step_i hlt hp'
    ((repeat ((conv => whnf); first | refine ⟨e, ?_⟩ | refine ⟨rfl, ?_⟩)); trivial)
  · have h4 : k = ps.length := by rw [ltI_f] at h1; simp at h1; omega
    subst h4
    ((repeat ((conv => whnf); first | refine brT ?_ | refine brF ?_)); conv => whnf)
    exact ⟨[.hs 0 ps.length], by simp [tupOf], rfl, .inl ⟨⟨rfl, trivial⟩, ⟨congrArg (Blk.arr 112 2) fill_all, trivial⟩, rfl, rfl⟩⟩
theorem toStepS_f (ps : List Pr) (hb : 16 * ps.length ≤ 281474976710656) : FSpec env.P 112 [.sl (ps.map Pr.lv)] (.own 112 2 (ps.map Pr.lv)) :=
  FSpec_of_HSpec (toStepS_h ps hb) (by simp only [exW]; exact ⟨rfl, rfl, rfl, rfl, by simp⟩)
theorem szStepS_spec (ps : List Pr) (l : Int) : FSpec env.P 108 [.sl (ps.map Pr.lv), .int .i64 l] (.int .i64 (szN l ps.length)) := by
  refine FSpec_of_code env_ok (fn := Try.f108) Try.func108 rfl Try.call108 _ _ ?_
  ((repeat ((conv => whnf); first | refine brT ?_ | refine brF ?_)); conv => whnf)
  intro hm
  rw [List.length_map]
  ((repeat ((conv => whnf); first | refine brT ?_ | refine brF ?_)); conv => whnf)
  (refine ⟨fun h => ?_, fun h => ?_⟩ <;> rw [h])
  · ((repeat ((conv => whnf); first | refine brT ?_ | refine brF ?_)); conv => whnf); exact ⟨rfl, by unfold szN; rw [h], List.nodup_nil⟩
  · ((repeat ((conv => whnf); first | refine brT ?_ | refine brF ?_)); conv => whnf); exact ⟨rfl, by unfold szN; rw [h], List.nodup_nil⟩
def szT (l : Int) (n : Nat) : Int := match ltI (szN l n) 0 with | true => -1 | false => szN l n
theorem szKinType_spec (e : Int) (ss : List Pr) (l : Int) : FSpec env.P 49 [typLV e ss, .int .i64 l] (.int .i64 (szT l ss.length)) := by
  refine FSpec_of_code env_ok (fn := Try.f49) Try.func49 rfl Try.call49 _ _ ?_
  ((repeat ((conv => whnf); first | refine brT ?_ | refine brF ?_)); conv => whnf)
  refine ⟨_, szStepS_spec ss l, ?_⟩
  ((repeat ((conv => whnf); first | refine brT ?_ | refine brF ?_)); conv => whnf)
  (refine ⟨fun h => ?_, fun h => ?_⟩ <;> rw [h])
  · ((repeat ((conv => whnf); first | refine brT ?_ | refine brF ?_)); conv => whnf); exact ⟨rfl, by unfold szT; rw [h], List.nodup_nil⟩
  · ((repeat ((conv => whnf); first | refine brT ?_ | refine brF ?_)); conv => whnf); exact ⟨rfl, by unfold szT; rw [h], List.nodup_nil⟩
theorem toKinType_h (e : Int) (ss : List Pr) (hb : 16 * ss.length ≤ 281474976710656) : HSpec env.P 51 [typLV e ss] [] (typHS e 0 (ss.map Pr.lv).length) [.arr 112 2 (ss.map Pr.lv)] := by
  refine HSpec_of_code (E := env.x [112] 0) env_ok.x (fn := Try.f51) Try.func51 rfl Try.call51 _ _ _ _ ?_
  ((repeat ((conv => whnf); first | refine brT ?_ | refine brF ?_)); conv => whnf)
  refine ⟨[], _, _, _, _, toStepS_h ss hb, rfl, rfl, rfl, trivial, ?_⟩
  ((repeat ((conv => whnf); first | refine brT ?_ | refine brF ?_)); conv => whnf)
  refine ⟨[typHS e 0 (ss.map Pr.lv).length], rfl, rfl, .inr ⟨[.old 3], ?_, ?_, rfl⟩⟩
  · ((repeat ((conv => whnf); refine ⟨rfl, rfl, ?_⟩)); trivial)
  · exact ⟨rfl, rfl, trivial⟩
theorem toKinType_f (e : Int) (ss : List Pr) (hb : 16 * ss.length ≤ 281474976710656) : FSpec env.P 51 [typLV e ss] (typLV e ss) := by
  refine FSpec_of_code env_ok (fn := Try.f51) Try.func51 rfl Try.call51 _ _ ?_
  ((repeat ((conv => whnf); first | refine brT ?_ | refine brF ?_)); conv => whnf)
  refine ⟨_, toStepS_f ss hb, ?_⟩
  ((repeat ((conv => whnf); first | refine brT ?_ | refine brF ?_)); conv => whnf)
  exact ⟨_, rfl, rfl, rfl, rfl, rfl, by simp [exsW]⟩
theorem eqStep_spec (p q : Pr) : FSpec env.P 168 [p.lv, q.lv] (.bool (p.eq q)) := by
  refine FSpec_of_code env_ok (fn := Try.f168) Try.func168 rfl Try.call168 _ _ ?_
  ((repeat' (((repeat ((conv => whnf); first | refine brT ?_ | refine brF ?_)); conv => whnf); (refine And.intro ?_ ?_ <;> (intro h; rw [h]; revert h; intro _)))); all_goals ((repeat ((conv => whnf); first | refine brT ?_ | refine brF ?_)); conv => whnf))
  all_goals (refine fin ?_; simp_all [Pr.eq, notB])
theorem eqStepS_spec (ps qs : List Pr) : FSpec env.P 118 [.sl (ps.map Pr.lv), .sl (qs.map Pr.lv)] (.bool (eqList Pr.eq ps qs)) := by
  refine FSpec_of_code env_ok (fn := Try.f118) Try.func118 rfl Try.call118 _ _ ?_
  ((repeat ((conv => whnf); first | refine brT ?_ | refine brF ?_)); conv => whnf)
  intro hp
  ((repeat ((conv => whnf); first | refine brT ?_ | refine brF ?_)); conv => whnf)
  intro hq
  ((repeat ((conv => whnf); first | refine brT ?_ | refine brF ?_)); conv => whnf)
  (refine ⟨fun h => ?_, fun h => ?_⟩ <;> rw [h])
  · ((repeat ((conv => whnf); first | refine brT ?_ | refine brF ?_)); conv => whnf)
    refine fin ?_
    rw [notB_t] at h
    rw [eqList_len (eqI_nolen h)]
  rw [notB_f] at h
  have hl := eqI_len h
  have hp' : ps.length ≤ Go.maxLen := by simpa using hp
  ((repeat ((conv => whnf); first | refine brT ?_ | refine brF ?_)); conv => whnf)
  refine loop_rule (α := Nat) (fun k => [(5, .int .i64 (k : Int))]) (fun _ => []) (fun k => ps.length - k) (fun k => k ≤ ps.length ∧ eqTo Pr.eq ps qs k) 0 ⟨Nat.zero_le _, fun _ _ _ h => absurd h (Nat.not_lt_zero _)⟩ ?_ ?_
  · refine ⟨?_, trivial, rfl, rfl⟩
    ((repeat ((conv => whnf); refine ⟨rfl, ?_⟩)); trivial)
  rintro k ⟨hk, he⟩
  ((repeat ((conv => whnf); first | refine brT ?_ | refine brF ?_)); conv => whnf)
  intro _
  ((repeat ((conv => whnf); first | refine brT ?_ | refine brF ?_)); conv => whnf)
  (refine ⟨fun h1 => ?_, fun h1 => ?_⟩ <;> rw [h1])
  · have hlt : k < ps.length := by rw [ltI_t] at h1; simp at h1; omega
    have hlt2 : k < qs.length := by omega
    ((repeat ((conv => whnf); first | refine brT ?_ | refine brF ?_)); conv => whnf)
    refine ⟨true, by kernel_rfl, ?_⟩
    ((repeat ((conv => whnf); first | refine brT ?_ | refine brF ?_)); conv => whnf)
    refine ⟨k, ps[k].lv, rfl, by simp [hlt], rfl, ?_⟩
    ((repeat ((conv => whnf); first | refine brT ?_ | refine brF ?_)); conv => whnf)
    refine ⟨k, qs[k].lv, rfl, by simp [hlt2], rfl, ?_⟩
    ((repeat ((conv => whnf); first | refine brT ?_ | refine brF ?_)); conv => whnf)
    refine ⟨_, eqStep_spec ps[k] qs[k], ?_⟩
    ((repeat ((conv => whnf); first | refine brT ?_ | refine brF ?_)); conv => whnf)
    (refine ⟨fun h3 => ?_, fun h3 => ?_⟩ <;> rw [h3])
    · rw [notB_t] at h3
      ((repeat ((conv => whnf); first | refine brT ?_ | refine brF ?_)); conv => whnf)
      refine fin ?_
      rw [eqList_no (k := k) (x := ps[k]) (y := qs[k]) (by simp [hlt]) (by simp [hlt2]) h3]
    · rw [notB_f] at h3
      ((repeat ((conv => whnf); first | refine brT ?_ | refine brF ?_)); conv => whnf)
      refine round_end (k + 1) ⟨hlt, he.succ (x := ps[k]) (y := qs[k]) (by simp [hlt]) (by simp [hlt2]) h3⟩ (by omega) ⟨?_, trivial, rfl, rfl⟩
      have e := step_i hlt hp'
      ((repeat ((conv => whnf); first | refine ⟨e, ?_⟩ | refine ⟨rfl, ?_⟩)); trivial)
  · have h3 : ps.length ≤ k := by rw [ltI_f] at h1; simp at h1; omega
    have h4 : k = ps.length := by omega
    subst h4
    ((repeat ((conv => whnf); first | refine brT ?_ | refine brF ?_)); conv => whnf)
    refine fin ?_
    rw [eqTo.all hl he]
def eqTyp (e : Int) (ss : List Pr) (f : Int) (ts : List Pr) : Bool := eqI e f && eqList Pr.eq ss ts
theorem eqKinType_spec (e : Int) (ss : List Pr) (f : Int) (ts : List Pr) : FSpec env.P 53 [typLV e ss, typLV f ts] (.bool (eqTyp e ss f ts)) := by
  refine FSpec_of_code env_ok (fn := Try.f53) Try.func53 rfl Try.call53 _ _ ?_
  ((repeat' (((repeat ((conv => whnf); first | refine brT ?_ | refine brF ?_)); conv => whnf); first | (refine And.intro ?_ ?_ <;> (intro h; rw [h]; revert h; intro _)) | (refine Exists.intro true (And.intro (a := drawB _ _ = true) (by kernel_rfl) ?_)) | (refine Exists.intro _ (And.intro (eqStepS_spec ss ts) ?_)))); all_goals ((repeat ((conv => whnf); first | refine brT ?_ | refine brF ?_)); conv => whnf))
  all_goals (refine fin ?_; simp_all [eqTyp, notB])
theorem eqTyp_refl (e : Int) (ss : List Pr) : eqTyp e ss e ss = true := by simp [eqTyp, eqI_refl, eqPairS_refl]

theorem markStepS_spec (ps : List Pr) (n : Nat) (hn : n = (ps.map Pr.lv).length) (k : Nat) (h1 : k + 2 * ps.length ≤ 2305843009213693952) :
    HSpec env.P 119 [.hs 0 n, .int .i64 (k : Int)] [.arr 112 2 (ps.map Pr.lv)] (.int .i64 ((k + 2 * ps.length : Nat) : Int)) [.arr 112 2 ((markPrs k ps.length).map Pr.lv)] := by
  subst hn
  refine HSpec_of_code (E := env.x [] 1) env_ok.x (fn := Try.f119) Try.func119 rfl Try.call119 _ _ _ _ ?_
  ((repeat ((conv => whnf); first | refine brT ?_ | refine brF ?_)); conv => whnf)
  refine loop_rule (α := Nat) (fun i => [(5, .int .i64 (i : Int)), (1, .int .i64 ((k + 2 * i : Nat) : Int)), (0, .hs 0 (rowQM k ps i).length)]) (fun i => [.arr 112 2 (rowQM k ps i)]) (fun i => ps.length - i) (fun i => i ≤ ps.length) 0 (Nat.zero_le _) ?_ ?_
  · have e0 : ps.map Pr.lv = rowQM k ps 0 := by simp [rowQM, markPrs]
    have e1 : LV.hs 0 (ps.map Pr.lv).length = LV.hs 0 (rowQM k ps 0).length := by rw [e0]
    refine ⟨?_, ⟨congrArg (Blk.arr 112 2) e0, trivial⟩, rfl, rfl⟩
    ((repeat ((conv => whnf); first | refine ⟨e1, ?_⟩ | refine ⟨rfl, ?_⟩)); trivial)
  intro i hi
  have hl := rowQM_len (k := k) hi
  ((repeat ((conv => whnf); first | refine brT ?_ | refine brF ?_)); conv => whnf)
  refine ⟨rfl, fun hm => ?_⟩
  have hm' : ps.length ≤ Go.maxLen := by rw [← hl]; exact hm
  ((repeat ((conv => whnf); first | refine brT ?_ | refine brF ?_)); conv => whnf)
  (refine ⟨fun g1 => ?_, fun g1 => ?_⟩ <;> rw [g1])
  · have hlt : i < ps.length := by rw [ltI_t] at g1; omega
    have e := step_i hlt hm'
    have hiL : i < (rowQM k ps i).length := by omega
    have hg := rowQM_get (k := k) hlt
    have hset := rowQM_set (k := k) hlt
    have w0 : IntKind.i64.wrap (((k + 2 * i : Nat) : Int) + 1) = ((k + 2 * i : Nat) : Int) + 1 := wrap64 (by omega) (by omega)
    have w3 : IntKind.i64.wrap (((k + 2 * i : Nat) : Int) + 1 + 1) = ((k + 2 * (i + 1) : Nat) : Int) := by rw [wrap64 (by omega) (by omega)]; omega
    have hlen : ∀ x : LV, (rowQM k ps i).length = ((rowQM k ps i).set i x).length := fun x => by simp
    generalize ps[i] = p at hg hset
    generalize hK : ((k + 2 * i : Nat) : Int) = kk at w0 w3 hset ⊢
    have hfin : (rowQM k ps i).set i (.st [.int .i64 kk, .int .i64 (kk + 1)]) = rowQM k ps (i + 1) := hset
    generalize rowQM k ps i = L at hl hm hiL hg hlen hfin g1 ⊢
    have hgp : getP (.st L) [i] = some (.st [LV.int .i64 p.a, LV.int .i64 p.b]) := by simp [getP, hg, Pr.lv]
    have hgp0 : getP (.st L) [i, 0] = some (.int .i64 p.a) := by simp [getP, hg, Pr.lv]
    ((repeat ((conv => whnf); first | refine brT ?_ | refine brF ?_)); conv => whnf)
    refine ⟨rfl, rfl, i, rfl, hiL, ?_⟩
    ((repeat ((conv => whnf); first | refine brT ?_ | refine brF ?_)); conv => whnf)
    refine ⟨rfl, by simp, [LV.int .i64 p.a, LV.int .i64 p.b], hgp, rfl, by simp, ?_⟩
    ((repeat ((conv => whnf); first | refine brT ?_ | refine brF ?_)); conv => whnf)
    refine ⟨rfl, i, [0], .int .i64 p.a, rfl, hgp0, rfl, rfl, rfl, L.set i (.st [.int .i64 kk, .int .i64 p.b]), by rw [hg]; rfl, ?_⟩
    ((repeat ((conv => whnf); first | refine brT ?_ | refine brF ?_)); conv => whnf)
    rw [w0]
    refine ⟨hlen _, rfl, i, rfl, by simpa using hiL, ?_⟩
    ((repeat ((conv => whnf); first | refine brT ?_ | refine brF ?_)); conv => whnf)
    refine ⟨hlen _, by simp, _, fw_get hiL _, rfl, by simp, ?_⟩
    ((repeat ((conv => whnf); first | refine brT ?_ | refine brF ?_)); conv => whnf)
    refine ⟨hlen _, i, [1], _, rfl, fw_get2 hiL rfl, rfl, rfl, rfl, _, fw_set hiL rfl (.int .i64 (kk + 1)), ?_⟩
    ((repeat ((conv => whnf); first | refine brT ?_ | refine brF ?_)); conv => whnf)
    have e5 : LV.hs 0 L.length = LV.hs 0 (rowQM k ps (i + 1)).length := by rw [hl, rowQM_len (by omega)]
    have e6 : LV.int .i64 (IntKind.i64.wrap (kk + 1 + 1)) = LV.int .i64 ((k + 2 * (i + 1) : Nat) : Int) := by rw [w3]
    refine round_end (i + 1) hlt (by omega) ⟨?_, ⟨congrArg (Blk.arr 112 2) hfin, trivial⟩, rfl, rfl⟩
    repeat ((conv => whnf); first | refine ⟨e, ?_⟩ | refine ⟨e6, ?_⟩ | refine ⟨e5, ?_⟩ | refine ⟨rfl, ?_⟩)
    trivial
  · have h3 : i = ps.length := by rw [ltI_f] at g1; omega
    subst h3
    ((repeat ((conv => whnf); first | refine brT ?_ | refine brF ?_)); conv => whnf)
    exact ⟨[.int .i64 ((k + 2 * ps.length : Nat) : Int)], rfl, rfl, .inl ⟨⟨rfl, trivial⟩, ⟨by simp [rowQM], trivial⟩, rfl, rfl⟩⟩
theorem heldStepS_spec (k n : Nat) (h1 : k + 2 * n ≤ 2305843009213693952) : FSpec env.P 137 [.sl ((markPrs k n).map Pr.lv), .int .i64 (k : Int)] (.int .i64 ((k + 2 * n : Nat) : Int)) := by
  refine FSpec_of_code env_ok (fn := Try.f137) Try.func137 rfl Try.call137 _ _ ?_
  have hl : (List.map Pr.lv (markPrs k n)).length = n := by simp [markPrs_len]
  ((repeat ((conv => whnf); first | refine brT ?_ | refine brF ?_)); conv => whnf)
  refine loop_rule (α := Nat) (fun i => [(5, .int .i64 (i : Int)), (1, .int .i64 ((k + 2 * i : Nat) : Int))]) (fun i => []) (fun i => n - i) (fun i => i ≤ n) 0 (Nat.zero_le _) ?_ ?_
  · refine ⟨?_, trivial, rfl, rfl⟩
    ((repeat ((conv => whnf); refine ⟨rfl, ?_⟩)); trivial)
  intro i hi
  ((repeat ((conv => whnf); first | refine brT ?_ | refine brF ?_)); conv => whnf)
  intro hm
  rw [hl] at hm
  ((repeat ((conv => whnf); first | refine brT ?_ | refine brF ?_)); conv => whnf)
  (refine ⟨fun g1 => ?_, fun g1 => ?_⟩ <;> rw [g1])
  · have hlt : i < n := by rw [ltI_t] at g1; omega
    have e := step_i hlt hm
    have hg : (List.map Pr.lv (markPrs k n))[i]? = some (.st [.int .i64 ((k + 2 * i : Nat) : Int), .int .i64 (((k + 2 * i : Nat) : Int) + 1)]) := by
      rw [List.getElem?_map, markPrs_get k n i hlt]; rfl
    have w0 : IntKind.i64.wrap (((k + 2 * i : Nat) : Int) + 1) = ((k + 2 * i : Nat) : Int) + 1 := wrap64 (by omega) (by omega)
    have w3 : IntKind.i64.wrap (((k + 2 * i : Nat) : Int) + 1 + 1) = ((k + 2 * (i + 1) : Nat) : Int) := by rw [wrap64 (by omega) (by omega)]; omega
    generalize hK : ((k + 2 * i : Nat) : Int) = kk at w0 w3 hg ⊢
    have e6 : LV.int .i64 (IntKind.i64.wrap (kk + 1 + 1)) = LV.int .i64 ((k + 2 * (i + 1) : Nat) : Int) := by rw [w3]
    ((repeat ((conv => whnf); first | refine brT ?_ | refine brF ?_)); conv => whnf)
    refine ⟨i, _, rfl, hg, rfl, ?_⟩
    ((repeat ((conv => whnf); first | refine brT ?_ | refine brF ?_)); conv => whnf)
    rw [show notB (eqI kk kk) = false by simp [notB, eqI]]
    ((repeat ((conv => whnf); first | refine brT ?_ | refine brF ?_)); conv => whnf)
    rw [w0]
    refine ⟨i, _, rfl, hg, rfl, ?_⟩
    ((repeat ((conv => whnf); first | refine brT ?_ | refine brF ?_)); conv => whnf)
    rw [show notB (eqI (kk + 1) (kk + 1)) = false by simp [notB, eqI]]
    ((repeat ((conv => whnf); first | refine brT ?_ | refine brF ?_)); conv => whnf)
    refine round_end (i + 1) hlt (by omega) ⟨?_, trivial, rfl, rfl⟩
    repeat ((conv => whnf); first | refine ⟨e, ?_⟩ | refine ⟨e6, ?_⟩ | refine ⟨rfl, ?_⟩)
    trivial
  · have h3 : i = n := by rw [ltI_f] at g1; omega
    subst h3
    ((repeat ((conv => whnf); first | refine brT ?_ | refine brF ?_)); conv => whnf)
    exact ⟨rfl, rfl, List.nodup_nil⟩
theorem markKinType_spec (e : Int) (ps : List Pr) (m : Nat) (hm : m = (ps.map Pr.lv).length) (k : Nat) (h1 : k + 2 * ps.length ≤ 2305843009213693952) :
    HSpec env.P 54 [typHS e 0 m, .int .i64 (k : Int)] [.arr 112 2 (ps.map Pr.lv)] (.int .i64 ((k + 2 * ps.length : Nat) : Int)) [.arr 112 2 ((markPrs k ps.length).map Pr.lv)] := by
  refine HSpec_of_code (E := env.x [119] 1) env_ok.x (fn := Try.f54) Try.func54 rfl Try.call54 _ _ _ _ ?_
  ((repeat ((conv => whnf); first | refine brT ?_ | refine brF ?_)); conv => whnf)
  refine ⟨[0], _, _, _, _, markStepS_spec ps m hm k h1, rfl, rfl, rfl, trivial, ?_⟩
  ((repeat ((conv => whnf); first | refine brT ?_ | refine brF ?_)); conv => whnf)
  exact ⟨[.int .i64 ((k + 2 * ps.length : Nat) : Int)], rfl, rfl, .inl ⟨⟨rfl, trivial⟩, ⟨rfl, trivial⟩, rfl, rfl⟩⟩
theorem heldKinType_spec (e : Int) (k n : Nat) (h1 : k + 2 * n ≤ 2305843009213693952) : FSpec env.P 72 [typLV e (markPrs k n), .int .i64 (k : Int)] (.int .i64 ((k + 2 * n : Nat) : Int)) := by
  refine FSpec_of_code env_ok (fn := Try.f72) Try.func72 rfl Try.call72 _ _ ?_
  ((repeat ((conv => whnf); first | refine brT ?_ | refine brF ?_)); conv => whnf)
  refine ⟨_, heldStepS_spec k n h1, ?_⟩
  ((repeat ((conv => whnf); first | refine brT ?_ | refine brF ?_)); conv => whnf)
  rw [show ltI ((k + 2 * n : Nat) : Int) 0 = false by rw [ltI_f]; omega]
  ((repeat ((conv => whnf); first | refine brT ?_ | refine brF ?_)); conv => whnf)
  exact ⟨rfl, rfl, List.nodup_nil⟩
end Go.Proofs.Ytpfipmjmblgjfaa

namespace Go.Proofs.Ytpfipmjmblgjfaa
open Go.Lg
set_option maxHeartbeats 1600000
set_option maxRecDepth 10000
set_option linter.unusedVariables false
set_option linter.unusedSimpArgs false

theorem eqI_d (a b : Int) : eqI a b = decide (a = b) := by rw [Bool.eq_iff_iff, eqI_t]; simp
theorem ltI_d (a b : Int) : ltI a b = decide (a < b) := by rw [Bool.eq_iff_iff, ltI_t]; simp
theorem leI_d (a b : Int) : leI a b = decide (a ≤ b) := by rw [Bool.eq_iff_iff, leI_t]; simp
theorem notB_d (b : Bool) : notB b = !b := by rw [Bool.eq_iff_iff, notB_t]; simp

/-- A step of a kind and an age may be made from a person of a sex. -/
def stepB (k g x : Int) : Bool :=
  ((eqI k 1 || eqI k 2 || eqI k 5 || eqI k 6) && eqI g 0) || ((eqI k 3 || eqI k 4) && (eqI g 0 || eqI g 1 || eqI g 2)) ||
  (eqI k 7 && (eqI g 0 && notB (eqI x 1))) || (eqI k 8 && (eqI g 0 && notB (eqI x 2)))
theorem isStepFrom_spec (x : Int) (s : Pr) : FSpec env.P 166 [.int .i64 x, s.lv] (.bool (stepB s.a s.b x)) := by
  refine FSpec_of_code env_ok (fn := Try.f166) Try.func166 rfl Try.call166 _ _ ?_
  ((repeat' (((repeat ((conv => whnf); first | refine brT ?_ | refine brF ?_)); conv => whnf); (refine And.intro ?_ ?_ <;> (intro h; rw [h]; revert h; intro _)))); all_goals ((repeat ((conv => whnf); first | refine brT ?_ | refine brF ?_)); conv => whnf))
  all_goals (refine fin ?_; unfold stepB; simp only [eqI_d, notB_d] at *; simp only [decide_eq_true_eq, decide_eq_false_iff_not] at *; grind)
theorem l3Step_spec (s : Pr) (x : Int) : FSpec env.P 161 [s.lv, .int .i64 x] (.bool (stepB s.a s.b x)) := by
  refine FSpec_of_code env_ok (fn := Try.f161) Try.func161 rfl Try.call161 _ _ ?_
  ((repeat' (((repeat ((conv => whnf); first | refine brT ?_ | refine brF ?_)); conv => whnf); first | (refine And.intro ?_ ?_ <;> (intro h; rw [h]; revert h; intro _)) | (refine Exists.intro true (And.intro (a := drawB _ _ = true) (by kernel_rfl) ?_)) | (refine Exists.intro _ (And.intro (l1In_spec _ _ _) ?_)))); all_goals ((repeat ((conv => whnf); first | refine brT ?_ | refine brF ?_)); conv => whnf))
  all_goals (refine fin ?_; unfold stepB; simp only [eqI_d, notB_d, leI_d] at *; grind)
/-- The sex of whom a step of this kind leads to. -/
def sxOf (k : Int) : Int := match eqI (k.tmod 2) 1 with | true => 1 | false => 2
theorem l3Sex_spec (k : Int) : FSpec env.P 162 [.int .i64 k] (.int .i64 (sxOf k)) := by
  refine FSpec_of_code env_ok (fn := Try.f162) Try.func162 rfl Try.call162 _ _ ?_
  ((repeat ((conv => whnf); first | refine brT ?_ | refine brF ?_)); conv => whnf)
  refine ⟨by decide, ?_⟩
  ((repeat ((conv => whnf); first | refine brT ?_ | refine brF ?_)); conv => whnf)
  (refine ⟨fun h => ?_, fun h => ?_⟩ <;> rw [h])
  · ((repeat ((conv => whnf); first | refine brT ?_ | refine brF ?_)); conv => whnf); exact ⟨rfl, by unfold sxOf; rw [h], List.nodup_nil⟩
  · ((repeat ((conv => whnf); first | refine brT ?_ | refine brF ?_)); conv => whnf); exact ⟨rfl, by unfold sxOf; rw [h], List.nodup_nil⟩
theorem sexOfStep_spec (s : Pr) : FSpec env.P 167 [s.lv] (.int .i64 (sxOf s.a)) := by
  refine FSpec_of_code env_ok (fn := Try.f167) Try.func167 rfl Try.call167 _ _ ?_
  ((repeat ((conv => whnf); first | refine brT ?_ | refine brF ?_)); conv => whnf)
  refine ⟨by decide, ?_⟩
  ((repeat ((conv => whnf); first | refine brT ?_ | refine brF ?_)); conv => whnf)
  (refine ⟨fun h => ?_, fun h => ?_⟩ <;> rw [h])
  · ((repeat ((conv => whnf); first | refine brT ?_ | refine brF ?_)); conv => whnf); exact ⟨rfl, by unfold sxOf; rw [h], List.nodup_nil⟩
  · ((repeat ((conv => whnf); first | refine brT ?_ | refine brF ?_)); conv => whnf); exact ⟨rfl, by unfold sxOf; rw [h], List.nodup_nil⟩
theorem isSex_spec (x : Int) : FSpec env.P 165 [.int .i64 x] (.bool (eqI x 1 || eqI x 2)) := by
  refine FSpec_of_code env_ok (fn := Try.f165) Try.func165 rfl Try.call165 _ _ ?_
  ((repeat' (((repeat ((conv => whnf); first | refine brT ?_ | refine brF ?_)); conv => whnf); (refine And.intro ?_ ?_ <;> (intro h; rw [h]; revert h; intro _)))); all_goals ((repeat ((conv => whnf); first | refine brT ?_ | refine brF ?_)); conv => whnf))
  all_goals (refine fin ?_; simp_all)

/-- The sex from whom step i is made. -/
def sexAt (x : Int) (ss : List Pr) : Nat → Int
  | 0 => x
  | i + 1 => match ss[i]? with | some s => sxOf s.a | none => x
def sexTo (x : Int) (ss : List Pr) (k : Nat) : List Int := (List.range k).map (sexAt x ss)
theorem sexTo_succ (x : Int) (ss : List Pr) (k : Nat) : sexTo x ss (k + 1) = sexTo x ss k ++ [sexAt x ss k] := by simp [sexTo, List.range_succ]
theorem sexTo_len (x : Int) (ss : List Pr) (k : Nat) : (sexTo x ss k).length = k := by simp [sexTo]
theorem sexTo_get {x : Int} {ss : List Pr} {k i : Nat} (h : i < k) : (sexTo x ss k)[i]? = some (sexAt x ss i) := by simp [sexTo, h]
theorem sexAt_succ {x : Int} {ss : List Pr} {k : Nat} (h : k < ss.length) : sexAt x ss (k + 1) = sxOf ss[k].a := by simp [sexAt, h]

theorem sexesFrom_h (x : Int) (ss : List Pr) (h8 : ss.length ≤ 8) : HSpec env.P 116 [.int .i64 x, .sl (ss.map Pr.lv)] [] (.hs 0 ((sexTo x ss ss.length).map intLV).length) [.arr 3 1 ((sexTo x ss ss.length).map intLV)] := by
  refine HSpec_of_code (E := env.x [] 0) env_ok.x (fn := Try.f116) Try.func116 rfl Try.call116 _ _ _ _ ?_
  ((repeat ((conv => whnf); first | refine brT ?_ | refine brF ?_)); conv => whnf)
  intro hp
  have hp' : ss.length ≤ Go.maxLen := by simpa using hp
  ((repeat ((conv => whnf); first | refine brT ?_ | refine brF ?_)); conv => whnf)
  refine loop_ruleR (α := Nat) [.nil 3 1] (fun k => [(12, .int .i64 (k : Int)), (6, .int .i64 (sexAt x ss k)), (5, .hs 0 ((sexTo x ss k).map intLV).length)]) (fun k => [.arr 3 1 ((sexTo x ss k).map intLV)])
    (fun k => ss.length - k) (fun k => k ≤ ss.length) 0 (Nat.zero_le _) ?_ ?_
  · refine ⟨?_, ⟨rfl, rfl, trivial⟩, rfl⟩
    ((repeat ((conv => whnf); refine ⟨rfl, rfl, ?_⟩)); trivial)
  intro k hk
  ((repeat ((conv => whnf); first | refine brT ?_ | refine brF ?_)); conv => whnf)
  (refine ⟨fun h1 => ?_, fun h1 => ?_⟩ <;> rw [h1])
  · have hlt : k < ss.length := by rw [ltI_t] at h1; simp at h1; omega
    have e : LV.int .i64 (IntKind.i64.wrap ((k : Int) + 1)) = LV.int .i64 ((k + 1 : Nat) : Int) := step_i hlt hp'
    have e2 : (sexTo x ss k).map intLV ++ [LV.int .i64 (sexAt x ss k)] = (sexTo x ss (k + 1)).map intLV := by rw [sexTo_succ, List.map_append]; rfl
    have e3 : LV.hs 0 ((sexTo x ss k).map intLV ++ [LV.int .i64 (sexAt x ss k)]).length = LV.hs 0 ((sexTo x ss (k + 1)).map intLV).length := by rw [e2]
    have e4 : LV.int .i64 (sxOf ss[k].a) = LV.int .i64 (sexAt x ss (k + 1)) := by rw [sexAt_succ hlt]
    ((repeat ((conv => whnf); first | refine brT ?_ | refine brF ?_)); conv => whnf)
    refine ⟨k, ss[k].lv, rfl, by simp [hlt], rfl, ?_⟩
    ((repeat ((conv => whnf); first | refine brT ?_ | refine brF ?_)); conv => whnf)
    refine ⟨rfl, rfl, ?_, ?_, ?_⟩
    · rw [e2]; simp [sexTo_len]; omega
    · rw [e2]; simp [sexTo_len]; omega
    ((repeat ((conv => whnf); first | refine brT ?_ | refine brF ?_)); conv => whnf)
    refine ⟨_, sexOfStep_spec ss[k], ?_⟩
    ((repeat ((conv => whnf); first | refine brT ?_ | refine brF ?_)); conv => whnf)
    refine round_endR [.old 3] (k + 1) hlt (by omega) ⟨?_, ⟨rfl, congrArg (Blk.arr 3 1) e2, trivial⟩, rfl⟩
    repeat ((conv => whnf); first | refine ⟨rfl, e, ?_⟩ | refine ⟨rfl, e3, ?_⟩ | refine ⟨rfl, e4, ?_⟩ | refine ⟨rfl, rfl, ?_⟩)
    trivial
  · have h3 : k = ss.length := by rw [ltI_f] at h1; simp at h1; omega
    subst h3
    ((repeat ((conv => whnf); first | refine brT ?_ | refine brF ?_)); conv => whnf)
    exact ⟨[.hs 0 ((sexTo x ss ss.length).map intLV).length], rfl, rfl, .inl ⟨⟨rfl, trivial⟩, ⟨rfl, trivial⟩, rfl, rfl⟩⟩

theorem sexesFrom_f (x : Int) (ss : List Pr) (h8 : ss.length ≤ 8) : FSpec env.P 116 [.int .i64 x, .sl (ss.map Pr.lv)] (.own 3 1 ((sexTo x ss ss.length).map intLV)) :=
  FSpec_of_HSpec (sexesFrom_h x ss h8) (by simp only [exW]; exact ⟨rfl, rfl, rfl, rfl, by simp⟩)

/-- A type's steps may be made one after the other. -/
def stepsTo (x : Int) (ss : List Pr) (k : Nat) : Bool := (List.range k).all fun i => match ss[i]? with | some s => stepB s.a s.b (sexAt x ss i) | none => true
theorem stepsTo_succ {x : Int} {ss : List Pr} {k : Nat} (h : stepsTo x ss k = true) (hk : k < ss.length) (hs : stepB ss[k].a ss[k].b (sexAt x ss k) = true) : stepsTo x ss (k + 1) = true := by
  unfold stepsTo at h ⊢
  rw [List.range_succ, List.all_append, h]
  simp [hk, hs]
theorem stepsTo_no {x : Int} {ss : List Pr} {k n : Nat} (hk : k < ss.length) (hn : k < n) (hs : stepB ss[k].a ss[k].b (sexAt x ss k) = false) : stepsTo x ss n = false := by
  unfold stepsTo
  rw [List.all_eq_false]
  exact ⟨k, by simpa using hn, by simp [hk, hs]⟩
def typB (e : Int) (ss : List Pr) : Bool := (leI 0 e && leI e 2) && (leI (ss.length : Int) 8 && stepsTo e ss ss.length)
theorem typB_sex (e : Int) : (leI 0 e && leI e 2) = (eqI e 1 || eqI e 2 || eqI e 0) := by simp only [leI_d, eqI_d]; grind
theorem typB_e {e : Int} {ss : List Pr} (h : (leI 0 e && leI e 2) = false) : typB e ss = false := by unfold typB; rw [h]; rfl
theorem typB_l {e : Int} {ss : List Pr} (h : ltI 8 (ss.length : Int) = true) : typB e ss = false := by
  unfold typB; rw [show leI (ss.length : Int) 8 = false by rw [leI_f]; rw [ltI_t] at h; exact h]; simp
theorem typB_s {e : Int} {ss : List Pr} (h : stepsTo e ss ss.length = false) : typB e ss = false := by unfold typB; rw [h]; simp
theorem typB_y {e : Int} {ss : List Pr} (h : (leI 0 e && leI e 2) = true) (h1 : ltI 8 (ss.length : Int) = false) (h2 : stepsTo e ss ss.length = true) : typB e ss = true := by
  unfold typB; rw [h, h2, show leI (ss.length : Int) 8 = true by rw [leI_t]; rw [ltI_f] at h1; exact h1]; rfl
theorem isType_spec (e : Int) (ss : List Pr) : FSpec env.P 109 [typLV e ss] (.bool (typB e ss)) := by
  refine FSpec_of_code env_ok (fn := Try.f109) Try.func109 rfl Try.call109 _ _ ?_
  ((repeat ((conv => whnf); first | refine brT ?_ | refine brF ?_)); conv => whnf)
  refine ⟨_, l1In_spec _ _ _, ?_⟩
  ((repeat ((conv => whnf); first | refine brT ?_ | refine brF ?_)); conv => whnf)
  (refine ⟨fun h => ?_, fun h => ?_⟩ <;> rw [h])
  · rw [notB_t] at h
    ((repeat ((conv => whnf); first | refine brT ?_ | refine brF ?_)); conv => whnf)
    exact fin (typB_e h).symm
  rw [notB_f] at h
  ((repeat ((conv => whnf); first | refine brT ?_ | refine brF ?_)); conv => whnf)
  intro hp
  have hp' : ss.length ≤ Go.maxLen := by simpa using hp
  rw [List.length_map]
  ((repeat ((conv => whnf); first | refine brT ?_ | refine brF ?_)); conv => whnf)
  (refine ⟨fun h1 => ?_, fun h1 => ?_⟩ <;> rw [h1])
  · ((repeat ((conv => whnf); first | refine brT ?_ | refine brF ?_)); conv => whnf)
    exact fin (typB_l h1).symm
  ((repeat ((conv => whnf); first | refine brT ?_ | refine brF ?_)); conv => whnf)
  intro _
  rw [List.length_map]
  ((repeat ((conv => whnf); first | refine brT ?_ | refine brF ?_)); conv => whnf)
  refine loop_rule (α := Nat) (fun k => [(21, .int .i64 (k : Int)), (3, .int .i64 (sexAt e ss k))]) (fun k => [.box (typLV e ss)]) (fun k => ss.length - k) (fun k => k ≤ ss.length ∧ stepsTo e ss k = true) 0 ⟨Nat.zero_le _, rfl⟩ ?_ ?_
  · refine ⟨?_, ⟨rfl, trivial⟩, rfl, rfl⟩
    ((repeat ((conv => whnf); refine ⟨rfl, ?_⟩)); trivial)
  rintro k ⟨hk, hs⟩
  ((repeat ((conv => whnf); first | refine brT ?_ | refine brF ?_)); conv => whnf)
  (refine ⟨fun g => ?_, fun g => ?_⟩ <;> rw [g])
  · have hlt : k < ss.length := by rw [ltI_t] at g; omega
    have e1 : LV.int .i64 (IntKind.i64.wrap ((k : Int) + 1)) = LV.int .i64 ((k + 1 : Nat) : Int) := step_i hlt hp'
    have e4 : LV.int .i64 (sxOf ss[k].a) = LV.int .i64 (sexAt e ss (k + 1)) := by rw [sexAt_succ hlt]
    ((repeat ((conv => whnf); first | refine brT ?_ | refine brF ?_)); conv => whnf)
    refine ⟨k, ss[k].lv, rfl, by simp [hlt], rfl, ?_⟩
    ((repeat ((conv => whnf); first | refine brT ?_ | refine brF ?_)); conv => whnf)
    refine ⟨_, l3Step_spec ss[k] _, ?_⟩
    ((repeat ((conv => whnf); first | refine brT ?_ | refine brF ?_)); conv => whnf)
    (refine ⟨fun g2 => ?_, fun g2 => ?_⟩ <;> rw [g2])
    · rw [notB_t] at g2
      ((repeat ((conv => whnf); first | refine brT ?_ | refine brF ?_)); conv => whnf)
      exact fin (typB_s (stepsTo_no hlt hlt g2)).symm
    rw [notB_f] at g2
    ((repeat ((conv => whnf); first | refine brT ?_ | refine brF ?_)); conv => whnf)
    refine ⟨_, l3Sex_spec _, ?_⟩
    ((repeat ((conv => whnf); first | refine brT ?_ | refine brF ?_)); conv => whnf)
    refine round_end (k + 1) ⟨hlt, stepsTo_succ hs hlt g2⟩ (by show ss.length - (k + 1) < ss.length - k; omega) ⟨?_, ⟨rfl, trivial⟩, rfl, rfl⟩
    repeat ((conv => whnf); first | refine ⟨e1, ?_⟩ | refine ⟨e4, ?_⟩ | refine ⟨rfl, ?_⟩)
    trivial
  · have h3 : k = ss.length := by rw [ltI_f] at g; omega
    subst h3
    ((repeat ((conv => whnf); first | refine brT ?_ | refine brF ?_)); conv => whnf)
    exact fin (typB_y h h1 hs).symm
theorem isType_impl (e : Int) (ss : List Pr) : FSpec env.P 114 [typLV e ss] (.bool (typB e ss)) := by
  refine FSpec_of_code env_ok (fn := Try.f114) Try.func114 rfl Try.call114 _ _ ?_
  ((repeat ((conv => whnf); first | refine brT ?_ | refine brF ?_)); conv => whnf)
  refine ⟨_, isSex_spec e, ?_⟩
  ((repeat ((conv => whnf); first | refine brT ?_ | refine brF ?_)); conv => whnf)
  (refine ⟨fun h => ?_, fun h => ?_⟩ <;> rw [h])
  rotate_left
  · rw [notB_f] at h
    have hE : (leI 0 e && leI e 2) = true := by rw [typB_sex, h]; rfl
    clear h
    ((repeat ((conv => whnf); first | refine brT ?_ | refine brF ?_)); conv => whnf)
    intro hp
    have hp' : ss.length ≤ Go.maxLen := by simpa using hp
    rw [List.length_map]
    ((repeat ((conv => whnf); first | refine brT ?_ | refine brF ?_)); conv => whnf)
    (refine ⟨fun h1 => ?_, fun h1 => ?_⟩ <;> rw [h1])
    · ((repeat ((conv => whnf); first | refine brT ?_ | refine brF ?_)); conv => whnf)
      exact fin (typB_l h1).symm
    have h8 : ss.length ≤ 8 := by rw [ltI_f] at h1; omega
    ((repeat ((conv => whnf); first | refine brT ?_ | refine brF ?_)); conv => whnf)
    refine ⟨_, sexesFrom_f e ss h8, ?_⟩
    ((repeat ((conv => whnf); first | refine brT ?_ | refine brF ?_)); conv => whnf)
    intro _
    rw [List.length_map, sexTo_len]
    ((repeat ((conv => whnf); first | refine brT ?_ | refine brF ?_)); conv => whnf)
    refine loop_rule (α := Nat) (fun k => [(26, .int .i64 (k : Int))]) (fun k => [.box (typLV e ss)]) (fun k => ss.length - k) (fun k => k ≤ ss.length ∧ stepsTo e ss k = true) 0 ⟨Nat.zero_le _, rfl⟩ ?_ ?_
    · refine ⟨?_, ⟨rfl, trivial⟩, rfl, rfl⟩
      ((repeat ((conv => whnf); refine ⟨rfl, ?_⟩)); trivial)
    rintro k ⟨hk, hs⟩
    ((repeat ((conv => whnf); first | refine brT ?_ | refine brF ?_)); conv => whnf)
    (refine ⟨fun g => ?_, fun g => ?_⟩ <;> rw [g])
    · have hlt : k < ss.length := by rw [ltI_t] at g; omega
      have e1 : LV.int .i64 (IntKind.i64.wrap ((k : Int) + 1)) = LV.int .i64 ((k + 1 : Nat) : Int) := step_i hlt hp'
      ((repeat ((conv => whnf); first | refine brT ?_ | refine brF ?_)); conv => whnf)
      refine ⟨k, intLV (sexAt e ss k), rfl, by rw [List.getElem?_map, sexTo_get hlt]; rfl, rfl, ?_⟩
      ((repeat ((conv => whnf); first | refine brT ?_ | refine brF ?_)); conv => whnf)
      refine ⟨k, ss[k].lv, rfl, by simp [hlt], rfl, ?_⟩
      ((repeat ((conv => whnf); first | refine brT ?_ | refine brF ?_)); conv => whnf)
      refine ⟨_, isStepFrom_spec _ ss[k], ?_⟩
      ((repeat ((conv => whnf); first | refine brT ?_ | refine brF ?_)); conv => whnf)
      (refine ⟨fun g2 => ?_, fun g2 => ?_⟩ <;> rw [g2])
      · rw [notB_t] at g2
        ((repeat ((conv => whnf); first | refine brT ?_ | refine brF ?_)); conv => whnf)
        exact fin (typB_s (stepsTo_no hlt hlt g2)).symm
      rw [notB_f] at g2
      ((repeat ((conv => whnf); first | refine brT ?_ | refine brF ?_)); conv => whnf)
      refine round_end (k + 1) ⟨hlt, stepsTo_succ hs hlt g2⟩ (by show ss.length - (k + 1) < ss.length - k; omega) ⟨?_, ⟨rfl, trivial⟩, rfl, rfl⟩
      ((repeat ((conv => whnf); first | refine ⟨e1, ?_⟩ | refine ⟨rfl, ?_⟩)); trivial)
    · have h3 : k = ss.length := by rw [ltI_f] at g; omega
      subst h3
      ((repeat ((conv => whnf); first | refine brT ?_ | refine brF ?_)); conv => whnf)
      exact fin (typB_y hE h1 hs).symm
  · rw [notB_t] at h
    ((repeat ((conv => whnf); first | refine brT ?_ | refine brF ?_)); conv => whnf)
    (refine ⟨fun h0 => ?_, fun h0 => ?_⟩ <;> rw [h0])
    · rw [notB_t] at h0
      have hE : (leI 0 e && leI e 2) = false := by rw [typB_sex, h, h0]; rfl
      ((repeat ((conv => whnf); first | refine brT ?_ | refine brF ?_)); conv => whnf)
      exact fin (typB_e hE).symm
    rw [notB_f] at h0
    have hE : (leI 0 e && leI e 2) = true := by rw [typB_sex, h, h0]; rfl
    clear h h0
    ((repeat ((conv => whnf); first | refine brT ?_ | refine brF ?_)); conv => whnf)
    intro hp
    have hp' : ss.length ≤ Go.maxLen := by simpa using hp
    rw [List.length_map]
    ((repeat ((conv => whnf); first | refine brT ?_ | refine brF ?_)); conv => whnf)
    (refine ⟨fun h1 => ?_, fun h1 => ?_⟩ <;> rw [h1])
    · ((repeat ((conv => whnf); first | refine brT ?_ | refine brF ?_)); conv => whnf)
      exact fin (typB_l h1).symm
    have h8 : ss.length ≤ 8 := by rw [ltI_f] at h1; omega
    ((repeat ((conv => whnf); first | refine brT ?_ | refine brF ?_)); conv => whnf)
    refine ⟨_, sexesFrom_f e ss h8, ?_⟩
    ((repeat ((conv => whnf); first | refine brT ?_ | refine brF ?_)); conv => whnf)
    intro _
    rw [List.length_map, sexTo_len]
    ((repeat ((conv => whnf); first | refine brT ?_ | refine brF ?_)); conv => whnf)
    refine loop_rule (α := Nat) (fun k => [(26, .int .i64 (k : Int))]) (fun k => [.box (typLV e ss)]) (fun k => ss.length - k) (fun k => k ≤ ss.length ∧ stepsTo e ss k = true) 0 ⟨Nat.zero_le _, rfl⟩ ?_ ?_
    · refine ⟨?_, ⟨rfl, trivial⟩, rfl, rfl⟩
      ((repeat ((conv => whnf); refine ⟨rfl, ?_⟩)); trivial)
    rintro k ⟨hk, hs⟩
    ((repeat ((conv => whnf); first | refine brT ?_ | refine brF ?_)); conv => whnf)
    (refine ⟨fun g => ?_, fun g => ?_⟩ <;> rw [g])
    · have hlt : k < ss.length := by rw [ltI_t] at g; omega
      have e1 : LV.int .i64 (IntKind.i64.wrap ((k : Int) + 1)) = LV.int .i64 ((k + 1 : Nat) : Int) := step_i hlt hp'
      ((repeat ((conv => whnf); first | refine brT ?_ | refine brF ?_)); conv => whnf)
      refine ⟨k, intLV (sexAt e ss k), rfl, by rw [List.getElem?_map, sexTo_get hlt]; rfl, rfl, ?_⟩
      ((repeat ((conv => whnf); first | refine brT ?_ | refine brF ?_)); conv => whnf)
      refine ⟨k, ss[k].lv, rfl, by simp [hlt], rfl, ?_⟩
      ((repeat ((conv => whnf); first | refine brT ?_ | refine brF ?_)); conv => whnf)
      refine ⟨_, isStepFrom_spec _ ss[k], ?_⟩
      ((repeat ((conv => whnf); first | refine brT ?_ | refine brF ?_)); conv => whnf)
      (refine ⟨fun g2 => ?_, fun g2 => ?_⟩ <;> rw [g2])
      · rw [notB_t] at g2
        ((repeat ((conv => whnf); first | refine brT ?_ | refine brF ?_)); conv => whnf)
        exact fin (typB_s (stepsTo_no hlt hlt g2)).symm
      rw [notB_f] at g2
      ((repeat ((conv => whnf); first | refine brT ?_ | refine brF ?_)); conv => whnf)
      refine round_end (k + 1) ⟨hlt, stepsTo_succ hs hlt g2⟩ (by show ss.length - (k + 1) < ss.length - k; omega) ⟨?_, ⟨rfl, trivial⟩, rfl, rfl⟩
      ((repeat ((conv => whnf); first | refine ⟨e1, ?_⟩ | refine ⟨rfl, ?_⟩)); trivial)
    · have h3 : k = ss.length := by rw [ltI_f] at g; omega
      subst h3
      ((repeat ((conv => whnf); first | refine brT ?_ | refine brF ?_)); conv => whnf)
      exact fin (typB_y hE h1 hs).symm
end Go.Proofs.Ytpfipmjmblgjfaa
