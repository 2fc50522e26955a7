/- Contracts of functions of the program and of its model, told over readings. -/
import Derived.Test.YtfdjeflnjciloaaBR5
namespace Go.Proofs.Ytfdjeflnjciloaa
open Go.Lg
set_option maxHeartbeats 1600000
set_option maxRecDepth 10000
set_option linter.unusedVariables false
set_option linter.unusedSimpArgs false

theorem rowFrom_cons {n last b : Int} {bs : List Int} (h : rowFrom n last (b :: bs) = true) : last < b ∧ b < n ∧ rowFrom n b bs = true := by
  simp only [rowFrom] at h
  split at h
  · cases h
  · rename_i h1
    split at h
    · cases h
    · rename_i h2
      rw [leI_f] at h1 h2
      exact ⟨h1, h2, h⟩
theorem rowFrom_mem : ∀ {r : List Int} {n last : Int}, rowFrom n last r = true → ∀ b ∈ r, last < b ∧ b < n
  | [], _, _, _, b, hb => by simp at hb
  | x :: xs, n, last, h, b, hb => by
    obtain ⟨h1, h2, h3⟩ := rowFrom_cons h
    rcases List.mem_cons.1 hb with rfl | hb
    · exact ⟨h1, h2⟩
    · have := rowFrom_mem h3 b hb; omega
theorem rowFrom_len : ∀ {r : List Int} {n last : Int}, rowFrom n last r = true → (r.length : Int) + last ≤ n - 1 ∨ r = []
  | [], _, _, _ => .inr rfl
  | x :: xs, n, last, h => by
    obtain ⟨h1, h2, h3⟩ := rowFrom_cons h
    left
    rcases rowFrom_len h3 with h4 | rfl
    · simp only [List.length_cons]; omega
    · simp; omega
structure RelIn (n : Int) (rows : List (List Int)) : Prop where
  lo : 0 ≤ n
  hi : n ≤ 40
  len : (rows.length : Int) = n
  row : ∀ r ∈ rows, rowFrom n (-1) r = true
theorem relIn_of {n : Int} {rows : List (List Int)} (h : relOk n rows = true) : RelIn n rows := by
  unfold relOk rowsOk at h
  simp only [Bool.and_eq_true, leI_t, eqI_t, List.all_eq_true] at h
  exact ⟨h.1.1.1, h.1.1.2, h.1.2, h.2⟩
theorem relOk_of {n : Int} {rows : List (List Int)} (h : RelIn n rows) : relOk n rows = true := by
  unfold relOk rowsOk
  simp only [Bool.and_eq_true, leI_t, eqI_t, List.all_eq_true]
  exact ⟨⟨⟨h.lo, h.hi⟩, h.len⟩, h.row⟩
theorem RelIn.mem {n : Int} {rows : List (List Int)} (h : RelIn n rows) {r : List Int} (hr : r ∈ rows) {b : Int} (hb : b ∈ r) : 0 ≤ b ∧ b < n ∧ b < 40 := by
  have := rowFrom_mem (h.row r hr) b hb
  have := h.hi
  omega
theorem RelIn.rlen {n : Int} {rows : List (List Int)} (h : RelIn n rows) {r : List Int} (hr : r ∈ rows) : r.length ≤ 40 := by
  have h1 := h.hi
  rcases rowFrom_len (h.row r hr) with h2 | rfl
  · omega
  · simp

/-! ### Pairs -/
structure Pr where
  a : Int
  b : Int
def Pr.lv (p : Pr) : LV := .st [.int .i64 p.a, .int .i64 p.b]
def prRow (a : Nat) (r : List Int) : List Pr := r.map fun b => ⟨a, b⟩
def prFrom : Nat → List (List Int) → List Pr
  | _, [] => []
  | a, r :: rs => prRow a r ++ prFrom (a + 1) rs
theorem prFrom_snoc : ∀ (a : Nat) (rs : List (List Int)) (r : List Int), prFrom a (rs ++ [r]) = prFrom a rs ++ prRow (a + rs.length) r
  | a, [], r => by simp [prFrom]
  | a, x :: xs, r => by
    simp only [List.cons_append, prFrom, prFrom_snoc _ xs r, List.append_assoc, List.length_cons]
    congr 3; omega
theorem prFrom_len : ∀ (a : Nat) (rs : List (List Int)), (prFrom a rs).length = tot rs
  | _, [] => rfl
  | a, r :: rs => by simp [prFrom, prRow, tot_cons, prFrom_len _ rs]
theorem tot_le {m : Nat} : ∀ {rows : List (List Int)}, (∀ r ∈ rows, r.length ≤ m) → tot rows ≤ rows.length * m
  | [], _ => by simp [tot]
  | r :: rs, h => by
    have h1 := h r (by simp)
    have h2 := tot_le (rows := rs) fun q hq => h q (by simp [hq])
    rw [tot_cons, List.length_cons, Nat.succ_mul]; omega
theorem RelIn.tot {n : Int} {rows : List (List Int)} (h : RelIn n rows) : tot rows ≤ 1600 := by
  have h1 := tot_le (rows := rows) (m := 40) fun r hr => h.rlen hr
  have h2 : rows.length ≤ 40 := by have := h.len; have := h.hi; omega
  have := Nat.mul_le_mul_right 40 h2
  omega
/-- What has been listed when k rows are done, and i numbers of the next. -/
def prTo (rows : List (List Int)) (k i : Nat) : List Pr := prFrom 0 (rows.take k) ++ prRow k ((rows.getD k []).take i)
theorem prTo_zero (rows : List (List Int)) (k : Nat) : prTo rows k 0 = prFrom 0 (rows.take k) := by simp [prTo, prRow]
theorem prTo_succ {rows : List (List Int)} {k i : Nat} (hk : k < rows.length) (hi : i < rows[k].length) : prTo rows k (i + 1) = prTo rows k i ++ [⟨k, rows[k][i]⟩] := by
  have hg : rows.getD k [] = rows[k] := by simp [List.getD_eq_getElem?_getD, hk]
  unfold prTo
  rw [hg, List.take_succ_eq_append_getElem hi]
  simp only [prRow, List.map_append, List.map_cons, List.map_nil, List.append_assoc]
theorem prTo_row {rows : List (List Int)} {k : Nat} (hk : k < rows.length) : prTo rows k rows[k].length = prTo rows (k + 1) 0 := by
  have hg : rows.getD k [] = rows[k] := by simp [List.getD_eq_getElem?_getD, hk]
  rw [prTo_zero]
  unfold prTo
  rw [hg, List.take_length, List.take_succ_eq_append_getElem hk, prFrom_snoc]
  simp [List.length_take, Nat.min_eq_left (Nat.le_of_lt hk)]
theorem prTo_len {rows : List (List Int)} {k i : Nat} (hk : k < rows.length) (hi : i ≤ rows[k].length) : (prTo rows k i).length ≤ tot rows := by
  have hg : rows.getD k [] = rows[k] := by simp [List.getD_eq_getElem?_getD, hk]
  have h1 := tot_take_succ hk
  have h2 := tot_take_le rows (k + 1)
  unfold prTo
  rw [List.length_append, prFrom_len, hg]
  simp [prRow]
  omega
def pairsL (n : Int) (rows : List (List Int)) : List Pr := match relOk n rows with | true => prFrom 0 rows | false => []
theorem pairsL_len (n : Int) (rows : List (List Int)) : (pairsL n rows).length ≤ 1600 := by
  unfold pairsL
  split
  · rename_i h; rw [prFrom_len]; exact (relIn_of h).tot
  · simp
end Go.Proofs.Ytfdjeflnjciloaa
