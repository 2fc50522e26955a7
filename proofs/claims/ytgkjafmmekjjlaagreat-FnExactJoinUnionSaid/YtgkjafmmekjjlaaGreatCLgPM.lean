/- Permutations as lists of numbers: places, inverses, compositions. Of no program. -/
import Derived.KernelRfl
namespace Go.Pm
def plc (d : Int) (ps : List Int) (n : Nat) : Nat → List Int
  | 0 => List.replicate n d
  | k + 1 => (plc d ps n k).set (ps.getD k 0).toNat (k : Int)
def fnd (ps : List Int) (n : Nat) : Nat → List Bool
  | 0 => List.replicate n false
  | k + 1 => (fnd ps n k).set (ps.getD k 0).toNat true
def okTo (ps : List Int) (n : Nat) : Nat → Bool
  | 0 => true
  | k + 1 => okTo ps n k && (decide (0 ≤ ps.getD k 0) && decide (ps.getD k 0 < n) && !(ps.take k).contains (ps.getD k 0))
def permB (ps : List Int) : Bool := okTo ps ps.length ps.length
def inv (ps : List Int) : List Int := plc (-1) ps ps.length ps.length
def cmp (ps qs : List Int) : List Int := ps.map fun i => qs.getD i.toNat 0
def unit (n : Nat) : List Int := (List.range n).map fun (i : Nat) => (i : Int)
theorem getD_lt {α : Type} {ps : List α} {k : Nat} {d : α} (h : k < ps.length) : ps.getD k d = ps[k] := by simp [List.getD_eq_getElem?_getD, h]
theorem unit_len (n : Nat) : (unit n).length = n := by simp [unit]
def rel (w ps : List Int) : List Int := cmp (cmp (inv ps) w) ps
end Go.Pm
