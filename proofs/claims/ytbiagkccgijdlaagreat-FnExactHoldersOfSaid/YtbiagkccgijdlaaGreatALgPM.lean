/- Permutations as lists of numbers: places, inverses, compositions. Of no program. -/
import Derived.KernelRfl
namespace Go.Pm

/-- The place of each number among the first k ones; d where there is none. -/
def plc (d : Int) (ps : List Int) (n : Nat) : Nat → List Int
  | 0 => List.replicate n d
  | k + 1 => (plc d ps n k).set (ps.getD k 0).toNat (k : Int)
/-- Which numbers are among the first k ones. -/
def fnd (ps : List Int) (n : Nat) : Nat → List Bool
  | 0 => List.replicate n false
  | k + 1 => (fnd ps n k).set (ps.getD k 0).toNat true
/-- The first k numbers are below n and different. -/
def okTo (ps : List Int) (n : Nat) : Nat → Bool
  | 0 => true
  | k + 1 => okTo ps n k && (decide (0 ≤ ps.getD k 0) && decide (ps.getD k 0 < n) && !(ps.take k).contains (ps.getD k 0))
def permB (ps : List Int) : Bool := okTo ps ps.length ps.length
def inv (ps : List Int) : List Int := plc (-1) ps ps.length ps.length
theorem getD_lt {α : Type} {ps : List α} {k : Nat} {d : α} (h : k < ps.length) : ps.getD k d = ps[k] := by simp [List.getD_eq_getElem?_getD, h]

/-! ### Valid lists -/
theorem pigeon : ∀ (n : Nat) (l : List Int), l.Nodup → (∀ x ∈ l, 0 ≤ x ∧ x < n) → l.length ≤ n
  | 0, l, _, h => by
    cases l with
    | nil => simp
    | cons x l => have := h x (by simp); omega
  | n + 1, l, hn, h => by
    by_cases hm : (n : Int) ∈ l
    · have h1 := pigeon n (l.erase (n : Int)) (hn.erase _) fun x hx => by
        have hne : x ≠ (n : Int) := fun e => by rw [e] at hx; exact (hn.mem_erase_iff.1 hx).1 rfl
        have := h x (List.mem_of_mem_erase hx)
        omega
      rw [List.length_erase_of_mem hm] at h1
      omega
    · exact Nat.le_succ_of_le (pigeon n l hn fun x hx => by
        have hne : x ≠ (n : Int) := fun e => hm (e ▸ hx)
        have := h x hx
        omega)
/-! ### Lists that are filled at the places of a permutation -/
end Go.Pm

