/- The types of this seat's program, as the logic of values has them. -/
import Derived.Test.YtbiagkccgijdlaaRows
import Derived.Test.YtbiagkccgijdlaaALgN
import Derived.KernelRfl
import Derived.Laws.RangeAny
import Derived.Test.YtbiagkccgijdlaaALgPM
import Derived.Test.YtbiagkccgijdlaaALgMF
import Derived.Test.YtbiagkccgijdlaaALgWS
import Derived.Test.YtbiagkccgijdlaaALgSO
import Derived.Shelf.SlSortCmp.NoneTotal
import Derived.Test.YtbiagkccgijdlaaChecked
import Derived.WalkKit
import Derived.Lib.Walk
import Derived.Laws.Bits64b
import Derived.Laws.CopyOwn
import Derived.Deep.RegionLaw
import Derived.Deep.LoopGhost
import Derived.Deep.OwnRows
import Derived.Deep.RegionHeld
import Derived.OwnWalk
import Derived.Test.YtbiagkccgijdlaaALgRN
import Derived.Test.YtbiagkccgijdlaaALgRM
namespace Go.Proofs.Ytbiagkccgijdlaa
open Go.Lg
def tyL : List (Nat × TyI) :=
  [(3, ⟨.int .i64, 1, 8⟩),
   (4, ⟨.bool, 1, 1⟩),
   (5, ⟨.int .u8, 1, 1⟩),
   (9, ⟨.str, 1, 16⟩),
   (21, ⟨.int .i32, 1, 4⟩),
   (23, ⟨.struct [3, 4, 4] [0, 1, 2], 3, 16⟩),
   (25, ⟨.struct [3, 4, 4] [0, 1, 2], 3, 16⟩),
   (33, ⟨.slice 105, 1, 24⟩),
   (34, ⟨.slice 111, 1, 24⟩),
   (36, ⟨.struct [33, 34] [0, 1], 2, 48⟩),
   (38, ⟨.slice 3, 1, 24⟩),
   (40, ⟨.slice 93, 1, 24⟩),
   (41, ⟨.slice 109, 1, 24⟩),
   (43, ⟨.struct [40, 41] [0, 1], 2, 48⟩),
   (54, ⟨.slice 5, 1, 24⟩),
   (62, ⟨.slice 38, 1, 24⟩),
   (69, ⟨.slice 9, 1, 24⟩),
   (84, ⟨.slice 4, 1, 24⟩),
   (85, ⟨.int .u64, 1, 8⟩),
   (86, ⟨.int .u64, 1, 8⟩),
   (88, ⟨.struct [43, 25, 3, 86, 38] [0, 2, 5, 6, 7], 8, 104⟩),
   (93, ⟨.struct [9, 3, 3, 3, 3, 3] [0, 1, 2, 3, 4, 5], 6, 56⟩),
   (95, ⟨.other, 1, 8⟩),
   (100, ⟨.slice 102, 1, 24⟩),
   (102, ⟨.struct [3, 3] [0, 1], 2, 16⟩),
   (105, ⟨.struct [9, 3, 3, 3, 3, 3] [0, 1, 2, 3, 4, 5], 6, 56⟩),
   (109, ⟨.struct [3, 3, 3, 3] [0, 1, 2, 3], 4, 32⟩),
   (111, ⟨.struct [3, 3, 3, 3] [0, 1, 2, 3], 4, 32⟩),
   (117, ⟨.other, 1, 8⟩),
   (122, ⟨.other, 1, 8⟩),
   (126, ⟨.other, 1, 8⟩),
   (137, ⟨.other, 1, 8⟩),
   (144, ⟨.struct [54, 3, 3] [0, 1, 2], 3, 40⟩),
   (147, ⟨.int .u64, 1, 8⟩),
   (156, ⟨.int .i64, 1, 8⟩),
   (163, ⟨.int .u32, 1, 4⟩),
   (166, ⟨.other, 1, 8⟩),
   (167, ⟨.int .u64, 1, 8⟩),
   (171, ⟨.other, 1, 8⟩),
   (174, ⟨.other, 1, 8⟩)]
def zL : List (Nat × LV) :=
  [(3, (.int .i64 0)),
   (4, (.bool false)),
   (5, (.int .u8 0)),
   (9, (.str ⟨#[]⟩)),
   (21, (.int .i32 0)),
   (23, (.st [(.int .i64 0), (.bool false), (.bool false)])),
   (25, (.st [(.int .i64 0), (.bool false), (.bool false)])),
   (33, .nil),
   (34, .nil),
   (36, (.st [.nil, .nil])),
   (38, .nil),
   (40, .nil),
   (41, .nil),
   (43, (.st [.nil, .nil])),
   (54, .nil),
   (62, .nil),
   (69, .nil),
   (84, .nil),
   (85, (.int .u64 0)),
   (86, (.int .u64 0)),
   (88, (.st [(.st [.nil, .nil]), (.st [(.int .i64 0), (.bool false), (.bool false)]), (.int .i64 0), (.int .u64 0), .nil])),
   (93, (.st [(.str ⟨#[]⟩), (.int .i64 0), (.int .i64 0), (.int .i64 0), (.int .i64 0), (.int .i64 0)])),
   (95, .undef),
   (100, .nil),
   (102, (.st [(.int .i64 0), (.int .i64 0)])),
   (105, (.st [(.str ⟨#[]⟩), (.int .i64 0), (.int .i64 0), (.int .i64 0), (.int .i64 0), (.int .i64 0)])),
   (109, (.st [(.int .i64 0), (.int .i64 0), (.int .i64 0), (.int .i64 0)])),
   (111, (.st [(.int .i64 0), (.int .i64 0), (.int .i64 0), (.int .i64 0)])),
   (117, .undef),
   (122, .undef),
   (126, .undef),
   (137, .undef),
   (144, (.st [.nil, (.int .i64 0), (.int .i64 0)])),
   (147, (.int .u64 0)),
   (156, (.int .i64 0)),
   (163, (.int .u32 0)),
   (166, .undef),
   (167, (.int .u64 0)),
   (171, .undef),
   (174, .undef)]
def cL : List (Nat × List (Nat × Nat)) :=
  [(23, [(3, 0), (4, 1), (4, 2)]),
   (25, [(3, 0), (4, 1), (4, 2)]),
   (93, [(9, 0), (3, 1), (3, 2), (3, 3), (3, 4), (3, 5)]),
   (102, [(3, 0), (3, 1)]),
   (105, [(9, 0), (3, 1), (3, 2), (3, 3), (3, 4), (3, 5)]),
   (109, [(3, 0), (3, 1), (3, 2), (3, 3)]),
   (111, [(3, 0), (3, 1), (3, 2), (3, 3)])]
def mL : MTab :=
  []
def bL : List (Nat × Nat) := []
def mpL : List (TypeId × MK × TypeId × TypeId) := [(132, .int .i64, 3, 3), (134, .pair .i64 .i64, 102, 3)]
noncomputable def env : Env := { P := Try.prog, T := lookT tyL, Z := lookT zL, C := lookT cL, M := mL, bd := bL, mp := mpL }
theorem tyL_ok : tyL.all (fun x => tyOKB Try.prog x.1 x.2) = true := by kernel_rfl
theorem zL_ok : zL.all (fun x => zOKB Try.prog x.1 x.2) = true := by kernel_rfl
theorem cL_ok : cL.all (fun x => cmpB Try.prog x.1 x.2) = true := by kernel_rfl
theorem mL_ok : mL.all (fun x => methB Try.prog x.1 x.2.1 x.2.2) = true := by kernel_rfl
theorem bL_ok : bL.all (fun x => bdOKB Try.prog x.1) = true := by kernel_rfl
theorem mpL_ok : mpL.all (mpB Try.prog) = true := by kernel_rfl
theorem laid_ok : laidOutB Try.prog = true := by kernel_rfl
/-- What a run may lean on of its world: nothing. -/
instance gi : GI := { low := 0, F := fun _ => True, keepF := fun _ _ _ => trivial }
theorem gi_of {W : World} (h : W.ShapedOpen Try.prog) : GI.I W.heap.size W := ⟨Nat.zero_le _, trivial⟩
theorem env_ok : EnvOK env := ⟨TabOK_of tyL_ok, ZOK_of zL_ok, by kernel_rfl, COK_of cL_ok, MOK_of mL_ok, BdOK_of bL_ok, MpOK_of mpL_ok laid_ok⟩
end Go.Proofs.Ytbiagkccgijdlaa


namespace Go.Proofs.Ytbiagkccgijdlaa
open Go.Lg
set_option maxHeartbeats 400000
set_option linter.unusedVariables false
set_option linter.unusedSimpArgs false


structure Per where
  name : ByteArray
  sex : Int
  father : Int
  mother : Int
  born : Int
  died : Int
def Per.lv (p : Per) : LV := .st [.str p.name, .int .i64 p.sex, .int .i64 p.father, .int .i64 p.mother, .int .i64 p.born, .int .i64 p.died]
def Per.eq (p q : Per) : Bool := eqS p.name q.name && (eqI p.sex q.sex && (eqI p.father q.father && (eqI p.mother q.mother && (eqI p.born q.born && (eqI p.died q.died && true)))))
structure Uni where
  husband : Int
  wife : Int
  since : Int
  till : Int
def Uni.lv (p : Uni) : LV := .st [.int .i64 p.husband, .int .i64 p.wife, .int .i64 p.since, .int .i64 p.till]
def Uni.eq (p q : Uni) : Bool := eqI p.husband q.husband && (eqI p.wife q.wife && (eqI p.since q.since && (eqI p.till q.till && true)))

def eqList {α : Type} (eq : α → α → Bool) : List α → List α → Bool
  | [], [] => true
  | x :: xs, y :: ys => eq x y && eqList eq xs ys
  | _, _ => false

def eqTo {α : Type} (eq : α → α → Bool) (xs ys : List α) (k : Nat) : Prop := ∀ j x y, j < k → xs[j]? = some x → ys[j]? = some y → eq x y = true
theorem eqTo.succ {α : Type} {eq : α → α → Bool} {xs ys : List α} {k : Nat} (h : eqTo eq xs ys k) {x y : α} (hx : xs[k]? = some x) (hy : ys[k]? = some y) (e : eq x y = true) : eqTo eq xs ys (k + 1) := by
  intro j x' y' hj hx' hy'
  by_cases ej : j = k
  · subst ej
    rw [hx] at hx'
    rw [hy] at hy'
    cases hx'; cases hy'
    exact e
  · exact h j x' y' (by omega) hx' hy'
theorem eqTo.all {α : Type} {eq : α → α → Bool} : ∀ {xs ys : List α}, xs.length = ys.length → eqTo eq xs ys xs.length → eqList eq xs ys = true
  | [], [], _, _ => rfl
  | [], _ :: _, hl, _ => by simp at hl
  | _ :: _, [], hl, _ => by simp at hl
  | x :: xs, y :: ys, hl, h => by
    simp only [eqList, Bool.and_eq_true]
    refine ⟨h 0 x y (by simp) rfl rfl, eqTo.all (by simpa using hl) fun j x' y' hj hx hy => h (j + 1) x' y' (by simpa using hj) (by simpa using hx) (by simpa using hy)⟩
end Go.Proofs.Ytbiagkccgijdlaa

namespace Go.Proofs.Ytbiagkccgijdlaa
open Go.Lg
set_option maxHeartbeats 400000
set_option maxRecDepth 10000
set_option linter.unusedVariables false
set_option linter.unusedSimpArgs false

end Go.Proofs.Ytbiagkccgijdlaa


namespace Go.Proofs.Ytbiagkccgijdlaa
open Go.Lg
set_option maxHeartbeats 400000
set_option maxRecDepth 10000
set_option linter.unusedVariables false
set_option linter.unusedSimpArgs false

end Go.Proofs.Ytbiagkccgijdlaa


namespace Go.Proofs.Ytbiagkccgijdlaa
open Go.Lg
set_option maxHeartbeats 400000
set_option maxRecDepth 10000
set_option linter.unusedVariables false
set_option linter.unusedSimpArgs false

structure FamOK (ps : List Per) (us : List Uni) : Prop where
  p : ps.length ≤ Go.maxLen
  u : us.length ≤ Go.maxLen
  n : ∀ p ∈ ps, p.name.size ≤ Go.maxLen

theorem eqS_refl (s : ByteArray) : eqS s s = true := by unfold eqS; simp
end Go.Proofs.Ytbiagkccgijdlaa

namespace Go.Proofs.Ytbiagkccgijdlaa
open Go.Lg
set_option maxHeartbeats 400000
set_option maxRecDepth 10000
set_option linter.unusedVariables false
set_option linter.unusedSimpArgs false

/-- impl.isEndYear -/
def endYear (y b : Int) : Bool := eqI y (-1) || (leI b y && leI y 9999)
/-- impl.livedTo -/
def livedTo (p : Per) (y : Int) : Bool := eqI p.died (-1) || leI y p.died
/-- impl.isParentOf -/
def parentOk (ps : List Per) (x sex born : Int) : Bool :=
  eqI x (-1) || (leI 0 x && match ps[x.toNat]? with
    | none => false
    | some q => eqI q.sex sex && (ltI q.born born && (match eqI sex 1 with | true => livedTo q (IntKind.i64.wrap (born - 1)) | false => livedTo q born)))
end Go.Proofs.Ytbiagkccgijdlaa


namespace Go.Proofs.Ytbiagkccgijdlaa
open Go.Lg
set_option maxHeartbeats 400000
set_option maxRecDepth 10000
set_option linter.unusedVariables false
set_option linter.unusedSimpArgs false

/-- The first of that name. -/
def findFrom (n : ByteArray) : Nat → List Per → Option Nat
  | _, [] => none
  | i, p :: ps => match eqS p.name n with | true => some i | false => findFrom n (i + 1) ps
end Go.Proofs.Ytbiagkccgijdlaa

namespace Go.Proofs.Ytbiagkccgijdlaa
open Go.Lg
set_option maxHeartbeats 400000
set_option linter.unusedVariables false
set_option linter.unusedSimpArgs false

theorem l1In_spec (x a b : Int) : FSpec env.P 50 [.int .i64 x, .int .i64 a, .int .i64 b] (.bool (leI a x && leI x b)) := by
  refine FSpec_of_code env_ok (fn := Try.f50) Try.func50 rfl Try.call50 _ _ ?_
  conv => whnf
  refine ⟨fun h => ?_, fun h => ?_⟩ <;> rw [h] <;> conv => whnf
  · repeat (refine brT ?_; conv => whnf)
    exact fin rfl
  · repeat (refine brF ?_; conv => whnf)
    exact fin rfl

def low (c : UInt8) : Bool := !(ltI (c.toNat : Int) 97 || ltI 122 (c.toNat : Int))
def lowTo (s : ByteArray) (k : Nat) : Prop := ∀ j (h : j < s.size), j < k → low s[j] = true
def allLow (s : ByteArray) : Bool := s.data.toList.all low
def isName (s : ByteArray) : Bool := allLow s && (leI 1 (s.size : Int) && leI (s.size : Int) 12)

theorem lowTo.succ {s : ByteArray} {k : Nat} (h : lowTo s k) (hk : k < s.size) (hl : low s[k] = true) : lowTo s (k + 1) := by
  intro j hj hjk
  by_cases e : j = k
  · subst e; exact hl
  · exact h j hj (by omega)
theorem lowTo.all {s : ByteArray} {k : Nat} (h : lowTo s k) (hk : s.size ≤ k) : allLow s = true := by
  unfold allLow
  rw [List.all_eq_true]
  intro c hc
  obtain ⟨j, hj, rfl⟩ := List.mem_iff_getElem.1 hc
  have hj' : j < s.size := by simpa using hj
  exact h j hj' (by omega)
end Go.Proofs.Ytbiagkccgijdlaa


namespace Go.Proofs.Ytbiagkccgijdlaa
open Go.Lg
set_option maxHeartbeats 800000
set_option maxRecDepth 10000
set_option linter.unusedVariables false
set_option linter.unusedSimpArgs false

end Go.Proofs.Ytbiagkccgijdlaa


namespace Go.Proofs.Ytbiagkccgijdlaa
open Go.Lg
set_option maxHeartbeats 400000
set_option maxRecDepth 10000
set_option linter.unusedVariables false
set_option linter.unusedSimpArgs false

/-- impl.isOfSex -/
def ofSex (ps : List Per) (x sex : Int) : Bool := leI 0 x && match ps[x.toNat]? with | some q => eqI q.sex sex | none => false
/-- impl.isUnited -/
def unitedOf (m f : Int) (u : Uni) : Bool := eqI u.husband m && eqI u.wife f
/-- impl.knownParents -/
def notNone (x : Int) : Bool := notB (eqI x (-1))
def known (p : Per) : List Int := [p.father, p.mother].filter notNone
def intLV (n : Int) : LV := .int .i64 n
end Go.Proofs.Ytbiagkccgijdlaa


namespace Go.Proofs.Ytbiagkccgijdlaa
open Go.Lg
set_option maxHeartbeats 1600000
set_option maxRecDepth 10000
set_option linter.unusedVariables false
set_option linter.unusedSimpArgs false

end Go.Proofs.Ytbiagkccgijdlaa

namespace Go.Proofs.Ytbiagkccgijdlaa
open Go.Lg
set_option maxHeartbeats 1600000
set_option maxRecDepth 10000
set_option linter.unusedVariables false
set_option linter.unusedSimpArgs false

end Go.Proofs.Ytbiagkccgijdlaa


namespace Go.Proofs.Ytbiagkccgijdlaa
open Go.Lg
set_option maxHeartbeats 1600000
set_option maxRecDepth 10000
set_option linter.unusedVariables false
set_option linter.unusedSimpArgs false

/-- Rows that may be laid out again. -/
structure RowsOK (rows : List (List Int)) : Prop where
  n : 24 * rows.length ≤ 281474976710656
  each : ∀ r ∈ rows, 8 * r.length ≤ 281474976710656

end Go.Proofs.Ytbiagkccgijdlaa


namespace Go.Proofs.Ytbiagkccgijdlaa
open Go.Lg
set_option maxHeartbeats 1600000
set_option maxRecDepth 10000
set_option linter.unusedVariables false
set_option linter.unusedSimpArgs false

end Go.Proofs.Ytbiagkccgijdlaa

namespace Go.Proofs.Ytbiagkccgijdlaa
open Go.Lg Go.Pm
set_option maxHeartbeats 1600000
set_option maxRecDepth 10000
set_option linter.unusedVariables false
set_option linter.unusedSimpArgs false

/-! ### Places -/
end Go.Proofs.Ytbiagkccgijdlaa

namespace Go.Proofs.Ytbiagkccgijdlaa
open Go.Lg Go.Pm
set_option maxHeartbeats 1600000
set_option maxRecDepth 10000
set_option linter.unusedVariables false
set_option linter.unusedSimpArgs false

end Go.Proofs.Ytbiagkccgijdlaa


namespace Go.Proofs.Ytbiagkccgijdlaa
open Go.Lg Go.Pm
set_option maxHeartbeats 1600000
set_option maxRecDepth 10000
set_option linter.unusedVariables false
set_option linter.unusedSimpArgs false

/-! ### Composition -/
/-- The composition of lists that are permutations of as many numbers; nothing of others. -/
def cmpB (ps qs : List Int) : Bool := eqI (ps.length : Int) (qs.length : Int) && (permB ps && permB qs)
end Go.Proofs.Ytbiagkccgijdlaa

namespace Go.Proofs.Ytbiagkccgijdlaa
open Go.Lg
set_option maxHeartbeats 1600000
set_option maxRecDepth 10000
set_option linter.unusedVariables false
set_option linter.unusedSimpArgs false

/-- How many integers the rows have. -/
def tot (rows : List (List Int)) : Nat := (rows.map List.length).sum
theorem tot_cons (r : List Int) (rs : List (List Int)) : tot (r :: rs) = r.length + tot rs := by simp [tot]
end Go.Proofs.Ytbiagkccgijdlaa

namespace Go.Proofs.Ytbiagkccgijdlaa
open Go.Lg
set_option maxHeartbeats 1600000
set_option maxRecDepth 10000
set_option linter.unusedVariables false
set_option linter.unusedSimpArgs false

def rowFrom (size : Int) : Int → List Int → Bool
  | _, [] => true
  | last, b :: bs => match leI b last with | true => false | false => match leI size b with | true => false | false => rowFrom size b bs
end Go.Proofs.Ytbiagkccgijdlaa

namespace Go.Proofs.Ytbiagkccgijdlaa
open Go.Lg
set_option maxHeartbeats 1600000
set_option maxRecDepth 10000
set_option linter.unusedVariables false
set_option linter.unusedSimpArgs false

structure RowsLen (rows : List (List Int)) : Prop where
  n : rows.length ≤ Go.maxLen
  each : ∀ r ∈ rows, r.length ≤ Go.maxLen

theorem eqB_refl (b : Bool) : eqB b b = true := by unfold eqB; simp

end Go.Proofs.Ytbiagkccgijdlaa

namespace Go.Proofs.Ytbiagkccgijdlaa
open Go.Lg Go.Pm
set_option maxHeartbeats 3200000
set_option maxRecDepth 10000
set_option linter.unusedVariables false
set_option linter.unusedSimpArgs false

end Go.Proofs.Ytbiagkccgijdlaa

namespace Go.Proofs.Ytbiagkccgijdlaa
open Go.Lg
set_option maxHeartbeats 1600000
set_option maxRecDepth 10000
set_option linter.unusedVariables false
set_option linter.unusedSimpArgs false

/-! ### Bits -/
end Go.Proofs.Ytbiagkccgijdlaa

namespace Go.Proofs.Ytbiagkccgijdlaa
open Go.Lg
set_option maxHeartbeats 1600000
set_option maxRecDepth 10000
set_option linter.unusedVariables false
set_option linter.unusedSimpArgs false

theorem rowFrom_cons {n last b : Int} {bs : List Int} (h : rowFrom n last (b :: bs) = true) : last < b ∧ b < n ∧ rowFrom n b bs = true := by
  simp only [rowFrom] at h
  split at h
  · cases h
  · rename_i h1
    split at h
    · cases h
    · rename_i h2
      rw [leI_f] at h1 h2
      exact ⟨h1, h2, h⟩
theorem rowFrom_len : ∀ {r : List Int} {n last : Int}, rowFrom n last r = true → (r.length : Int) + last ≤ n - 1 ∨ r = []
  | [], _, _, _ => .inr rfl
  | x :: xs, n, last, h => by
    obtain ⟨h1, h2, h3⟩ := rowFrom_cons h
    left
    rcases rowFrom_len h3 with h4 | rfl
    · simp only [List.length_cons]; omega
    · simp; omega
structure RelIn (n : Int) (rows : List (List Int)) : Prop where
  lo : 0 ≤ n
  hi : n ≤ 40
  len : (rows.length : Int) = n
  row : ∀ r ∈ rows, rowFrom n (-1) r = true
theorem RelIn.rlen {n : Int} {rows : List (List Int)} (h : RelIn n rows) {r : List Int} (hr : r ∈ rows) : r.length ≤ 40 := by
  have h1 := h.hi
  rcases rowFrom_len (h.row r hr) with h2 | rfl
  · omega
  · simp

/-! ### Pairs -/
structure Pr where
  a : Int
  b : Int
def Pr.lv (p : Pr) : LV := .st [.int .i64 p.a, .int .i64 p.b]
theorem tot_le {m : Nat} : ∀ {rows : List (List Int)}, (∀ r ∈ rows, r.length ≤ m) → tot rows ≤ rows.length * m
  | [], _ => by simp [tot]
  | r :: rs, h => by
    have h1 := h r (by simp)
    have h2 := tot_le (rows := rs) fun q hq => h q (by simp [hq])
    rw [tot_cons, List.length_cons, Nat.succ_mul]; omega
theorem RelIn.tot {n : Int} {rows : List (List Int)} (h : RelIn n rows) : tot rows ≤ 1600 := by
  have h1 := tot_le (rows := rows) (m := 40) fun r hr => h.rlen hr
  have h2 : rows.length ≤ 40 := by have := h.len; have := h.hi; omega
  have := Nat.mul_le_mul_right 40 h2
  omega
end Go.Proofs.Ytbiagkccgijdlaa


namespace Go.Proofs.Ytbiagkccgijdlaa
open Go.Lg
set_option maxHeartbeats 1600000
set_option maxRecDepth 10000
set_option linter.unusedVariables false
set_option linter.unusedSimpArgs false

end Go.Proofs.Ytbiagkccgijdlaa

namespace Go.Proofs.Ytbiagkccgijdlaa
open Go.Lg
set_option maxHeartbeats 1600000
set_option maxRecDepth 10000
set_option linter.unusedVariables false
set_option linter.unusedSimpArgs false

end Go.Proofs.Ytbiagkccgijdlaa

namespace Go.Proofs.Ytbiagkccgijdlaa
open Go.Lg
set_option maxHeartbeats 1600000
set_option maxRecDepth 10000
set_option linter.unusedVariables false
set_option linter.unusedSimpArgs false

end Go.Proofs.Ytbiagkccgijdlaa

namespace Go.Proofs.Ytbiagkccgijdlaa
open Go.Lg
set_option maxHeartbeats 1600000
set_option maxRecDepth 10000
set_option linter.unusedVariables false
set_option linter.unusedSimpArgs false

end Go.Proofs.Ytbiagkccgijdlaa

namespace Go.Proofs.Ytbiagkccgijdlaa
open Go.Lg
set_option maxHeartbeats 1600000
set_option maxRecDepth 10000
set_option linter.unusedVariables false
set_option linter.unusedSimpArgs false

end Go.Proofs.Ytbiagkccgijdlaa

namespace Go.Proofs.Ytbiagkccgijdlaa
open Go.Lg
set_option maxHeartbeats 1600000
set_option maxRecDepth 10000
set_option linter.unusedVariables false
set_option linter.unusedSimpArgs false

def idxOf : Nat → List Int → Int → Int
  | _, [], _ => -1
  | k, x :: xs, v => match eqI v x with | true => (k : Int) | false => idxOf (k + 1) xs v
end Go.Proofs.Ytbiagkccgijdlaa

namespace Go.Proofs.Ytbiagkccgijdlaa
open Go.Lg
set_option maxHeartbeats 1600000
set_option maxRecDepth 10000
set_option linter.unusedVariables false
set_option linter.unusedSimpArgs false

/-! ### Tables and sets of one predicate -/
/-! ### Sets -/
/-! ### Rounds -/
end Go.Proofs.Ytbiagkccgijdlaa


namespace Go.Proofs.Ytbiagkccgijdlaa
open Go.Lg
set_option maxHeartbeats 1600000
set_option maxRecDepth 10000
set_option linter.unusedVariables false
set_option linter.unusedSimpArgs false

theorem RelIn.size {n : Int} {rows : List (List Int)} (h : RelIn n rows) : rows.length ≤ 40 := by have := h.len; have := h.hi; omega
end Go.Proofs.Ytbiagkccgijdlaa

namespace Go.Proofs.Ytbiagkccgijdlaa
open Go.Lg
set_option maxHeartbeats 1600000
set_option maxRecDepth 10000
set_option linter.unusedVariables false
set_option linter.unusedSimpArgs false

end Go.Proofs.Ytbiagkccgijdlaa

namespace Go.Proofs.Ytbiagkccgijdlaa
open Go.Lg
set_option maxHeartbeats 1600000
set_option maxRecDepth 10000
set_option linter.unusedVariables false
set_option linter.unusedSimpArgs false

/-! ### The closure, by rows and place by place -/
end Go.Proofs.Ytbiagkccgijdlaa

namespace Go.Proofs.Ytbiagkccgijdlaa
open Go.Lg
set_option maxHeartbeats 1600000
set_option maxRecDepth 10000
set_option linter.unusedVariables false
set_option linter.unusedSimpArgs false

/-! ### Composition -/
end Go.Proofs.Ytbiagkccgijdlaa

namespace Go.Proofs.Ytbiagkccgijdlaa
open Go.Lg
set_option maxHeartbeats 1600000
set_option maxRecDepth 10000
set_option linter.unusedVariables false
set_option linter.unusedSimpArgs false

end Go.Proofs.Ytbiagkccgijdlaa

namespace Go.Proofs.Ytbiagkccgijdlaa
open Go.Lg
set_option maxHeartbeats 1600000
set_option maxRecDepth 10000
set_option linter.unusedVariables false
set_option linter.unusedSimpArgs false

/-! ### Composition place by place -/
end Go.Proofs.Ytbiagkccgijdlaa

namespace Go.Proofs.Ytbiagkccgijdlaa
open Go.Lg
set_option maxHeartbeats 1600000
set_option maxRecDepth 10000
set_option linter.unusedVariables false
set_option linter.unusedSimpArgs false

end Go.Proofs.Ytbiagkccgijdlaa

namespace Go.Proofs.Ytbiagkccgijdlaa
open Go.Lg
set_option maxHeartbeats 1600000
set_option maxRecDepth 10000
set_option linter.unusedVariables false
set_option linter.unusedSimpArgs false

end Go.Proofs.Ytbiagkccgijdlaa

namespace Go.Proofs.Ytbiagkccgijdlaa
open Go.Lg
set_option maxHeartbeats 1600000
set_option maxRecDepth 10000
set_option linter.unusedVariables false
set_option linter.unusedSimpArgs false

end Go.Proofs.Ytbiagkccgijdlaa

namespace Go.Proofs.Ytbiagkccgijdlaa
open Go.Lg
set_option maxHeartbeats 1600000
set_option maxRecDepth 10000
set_option linter.unusedVariables false
set_option linter.unusedSimpArgs false

end Go.Proofs.Ytbiagkccgijdlaa

namespace Go.Proofs.Ytbiagkccgijdlaa
open Go.Lg
set_option maxHeartbeats 1600000
set_option maxRecDepth 10000
set_option linter.unusedVariables false
set_option linter.unusedSimpArgs false

/-! A row whose element i is written field by field. -/
section
variable {L : List LV} {i : Nat}
end

end Go.Proofs.Ytbiagkccgijdlaa


namespace Go.Proofs.Ytbiagkccgijdlaa
open Go.Lg
set_option maxHeartbeats 1600000
set_option maxRecDepth 10000
set_option linter.unusedVariables false
set_option linter.unusedSimpArgs false

def Pr.eq (p q : Pr) : Bool := eqI p.a q.a && eqI p.b q.b
end Go.Proofs.Ytbiagkccgijdlaa

namespace Go.Proofs.Ytbiagkccgijdlaa
open Go.Lg
set_option maxHeartbeats 1600000
set_option maxRecDepth 10000
set_option linter.unusedVariables false
set_option linter.unusedSimpArgs false

/-! ### Wrappers of the model -/
/-! ### Equality -/
end Go.Proofs.Ytbiagkccgijdlaa

namespace Go.Proofs.Ytbiagkccgijdlaa
open Go.Lg
set_option maxHeartbeats 1600000
set_option maxRecDepth 10000
set_option linter.unusedVariables false
set_option linter.unusedSimpArgs false

end Go.Proofs.Ytbiagkccgijdlaa

namespace Go.Proofs.Ytbiagkccgijdlaa
open Go.Lg
set_option maxHeartbeats 1600000
set_option maxRecDepth 10000
set_option linter.unusedVariables false
set_option linter.unusedSimpArgs false

end Go.Proofs.Ytbiagkccgijdlaa

namespace Go.Proofs.Ytbiagkccgijdlaa
open Go.Lg
set_option maxHeartbeats 1600000
set_option maxRecDepth 10000
set_option linter.unusedVariables false
set_option linter.unusedSimpArgs false

end Go.Proofs.Ytbiagkccgijdlaa

namespace Go.Proofs.Ytbiagkccgijdlaa
open Go.Lg
set_option maxHeartbeats 1600000
set_option maxRecDepth 10000
set_option linter.unusedVariables false
set_option linter.unusedSimpArgs false

end Go.Proofs.Ytbiagkccgijdlaa

namespace Go.Proofs.Ytbiagkccgijdlaa
open Go.Lg
set_option maxHeartbeats 1600000
set_option maxRecDepth 10000
set_option linter.unusedVariables false
set_option linter.unusedSimpArgs false

/-! A step is a pair: its kind and its age. -/
end Go.Proofs.Ytbiagkccgijdlaa

namespace Go.Proofs.Ytbiagkccgijdlaa
open Go.Lg
set_option maxHeartbeats 1600000
set_option maxRecDepth 10000
set_option linter.unusedVariables false
set_option linter.unusedSimpArgs false

end Go.Proofs.Ytbiagkccgijdlaa

namespace Go.Proofs.Ytbiagkccgijdlaa
open Go.Lg
set_option maxHeartbeats 1600000
set_option maxRecDepth 10000
set_option linter.unusedVariables false
set_option linter.unusedSimpArgs false

end Go.Proofs.Ytbiagkccgijdlaa

namespace Go.Proofs.Ytbiagkccgijdlaa
open Go.Lg Go.Pm
set_option maxHeartbeats 3200000
set_option maxRecDepth 10000
set_option linter.unusedVariables false
set_option linter.unusedSimpArgs false

/-! ### Classes -/
end Go.Proofs.Ytbiagkccgijdlaa

namespace Go.Proofs.Ytbiagkccgijdlaa
open Go.Lg Go.Pm
set_option maxHeartbeats 3200000
set_option maxRecDepth 10000
set_option linter.unusedVariables false
set_option linter.unusedSimpArgs false

/-! ### No class marries itself -/
end Go.Proofs.Ytbiagkccgijdlaa


namespace Go.Proofs.Ytbiagkccgijdlaa
open Go.Lg Go.Pm
set_option maxHeartbeats 6400000
set_option maxRecDepth 10000
set_option linter.unusedVariables false
set_option linter.unusedSimpArgs false

end Go.Proofs.Ytbiagkccgijdlaa


namespace Go.Proofs.Ytbiagkccgijdlaa
open Go.Lg
set_option maxHeartbeats 400000
set_option maxRecDepth 10000
set_option linter.unusedVariables false
set_option linter.unusedSimpArgs false

def fresh (ps : List Per) (n : ByteArray) (k : Nat) : Bool := (ps.take k).all fun q => notB (eqS q.name n)
end Go.Proofs.Ytbiagkccgijdlaa


namespace Go.Proofs.Ytbiagkccgijdlaa
open Go.Lg
set_option maxHeartbeats 400000
set_option maxRecDepth 10000
set_option linter.unusedVariables false
set_option linter.unusedSimpArgs false

/-- Where a parent may stand. -/
def parIn (x : Int) (i : Nat) : Prop := x = -1 ∨ (0 ≤ x ∧ x < i)
def parsIn (ps : List Per) : Prop := ∀ (i : Nat) (h : i < ps.length), parIn ps[i].father i ∧ parIn ps[i].mother i
def dep (ds : List Int) (x : Int) : Int := match leI 0 x with | true => ds.getD x.toNat 0 + 1 | false => 0
def dep2 (ds : List Int) (p : Per) : Int := maxI (dep ds p.father) (dep ds p.mother)
def depTo (ps : List Per) : Nat → List Int
  | 0 => []
  | k + 1 => depTo ps k ++ [match ps[k]? with | some p => dep2 (depTo ps k) p | none => 0]
def depths (ps : List Per) : List Int := depTo ps ps.length
theorem depTo_len (ps : List Per) : ∀ k, (depTo ps k).length = k
  | 0 => rfl
  | k + 1 => by simp [depTo, depTo_len ps k]
theorem maxI_le {a b c : Int} (h : a ≤ c) (k : b ≤ c) : maxI a b ≤ c := by unfold maxI; split <;> omega
theorem le_maxI {a b c : Int} (h : c ≤ a) : c ≤ maxI a b := by unfold maxI; split <;> omega
theorem dep_range {ds : List Int} {n : Nat} (h : ∀ v ∈ ds, 0 ≤ v ∧ v ≤ n) (x : Int) : 0 ≤ dep ds x ∧ dep ds x ≤ n + 1 := by
  unfold dep
  split
  · rw [List.getD_eq_getElem?_getD]
    cases e : ds[x.toNat]? with
    | none => simp; omega
    | some v => have := h v (List.mem_of_getElem? e); simp; omega
  · omega
theorem depTo_range (ps : List Per) : ∀ k, ∀ v ∈ depTo ps k, 0 ≤ v ∧ v ≤ k
  | 0, v, h => by simp [depTo] at h
  | k + 1, v, h => by
    simp only [depTo, List.mem_append, List.mem_singleton] at h
    rcases h with h | rfl
    · have := depTo_range ps k v h; omega
    · split
      · rename_i p _
        have h1 := dep_range (depTo_range ps k) p.father
        have h2 := dep_range (depTo_range ps k) p.mother
        exact ⟨le_maxI h1.1, maxI_le (by omega) (by omega)⟩
      · omega
theorem depTo_succ {ps : List Per} {k : Nat} (h : k < ps.length) : depTo ps (k + 1) = depTo ps k ++ [dep2 (depTo ps k) ps[k]] := by
  simp [depTo, h]
end Go.Proofs.Ytbiagkccgijdlaa


namespace Go.Proofs.Ytbiagkccgijdlaa
open Go.Lg
set_option maxHeartbeats 400000
set_option maxRecDepth 10000
set_option linter.unusedVariables false
set_option linter.unusedSimpArgs false

end Go.Proofs.Ytbiagkccgijdlaa


namespace Go.Proofs.Ytbiagkccgijdlaa
open Go.Lg
set_option maxHeartbeats 400000
set_option maxRecDepth 10000
set_option linter.unusedVariables false
set_option linter.unusedSimpArgs false

def fits (u : Uni) (p : Per) : Bool := leI p.born u.since && livedTo p (maxI u.since u.till)
def bothFit (ps : List Per) (u : Uni) : Bool := match ps[u.husband.toNat]?, ps[u.wife.toNat]? with
  | some a, some b => fits u a && fits u b
  | _, _ => false
def unionOk (ps : List Per) (before : List Uni) (u : Uni) : Bool :=
  (ofSex ps u.husband 1 && ofSex ps u.wife 2) && ((leI u.since 9999 && endYear u.till u.since) && (notB (before.any (unitedOf u.husband u.wife)) && bothFit ps u))

end Go.Proofs.Ytbiagkccgijdlaa


namespace Go.Proofs.Ytbiagkccgijdlaa
open Go.Lg
set_option maxHeartbeats 800000
set_option maxRecDepth 10000
set_option linter.unusedVariables false
set_option linter.unusedSimpArgs false

end Go.Proofs.Ytbiagkccgijdlaa


namespace Go.Proofs.Ytbiagkccgijdlaa
open Go.Lg
set_option maxHeartbeats 400000
set_option maxRecDepth 10000
set_option linter.unusedVariables false
set_option linter.unusedSimpArgs false

/-- impl.isPersonAfter -/
def personOk (ps : List Per) (p : Per) : Bool := match findFrom p.name 0 ps with
  | some _ => false
  | none => isName p.name && ((eqI p.sex 1 || eqI p.sex 2) && ((leI 0 p.born && (leI p.born 9999 && endYear p.died p.born)) &&
      (parentOk ps p.father 1 p.born && parentOk ps p.mother 2 p.born)))
end Go.Proofs.Ytbiagkccgijdlaa


namespace Go.Proofs.Ytbiagkccgijdlaa
open Go.Lg
set_option maxHeartbeats 800000
set_option maxRecDepth 10000
set_option linter.unusedVariables false
set_option linter.unusedSimpArgs false

def personsTo (ps : List Per) (k : Nat) : Bool := (List.range k).all fun i => match ps[i]? with | some p => personOk (ps.take i) p | none => true
def unionsTo (ps : List Per) (us : List Uni) (k : Nat) : Bool := (List.range k).all fun i => match us[i]? with | some u => unionOk ps (us.take i) u | none => true
def shallow (ds : List Int) : Bool := ds.all fun d => leI d 10
def famOk (ps : List Per) (us : List Uni) : Bool := decide (ps.length ≤ 40) && (decide (us.length ≤ 60) && (personsTo ps ps.length && (unionsTo ps us us.length && shallow (depths ps))))

theorem personsTo_no {ps : List Per} {i k : Nat} (hi : i < k) (h : i < ps.length) (e : personOk (ps.take i) ps[i] = false) : personsTo ps k = false := by
  unfold personsTo
  rw [List.all_eq_false]
  exact ⟨i, List.mem_range.2 hi, by simp [h, e]⟩
theorem personsTo_get {ps : List Per} {k : Nat} (h : personsTo ps k = true) {i : Nat} (hi : i < k) (hl : i < ps.length) : personOk (ps.take i) ps[i] = true := by
  cases e : personOk (ps.take i) ps[i] with
  | true => rfl
  | false => rw [personsTo_no hi hl e] at h; cases h

theorem personOk_spec {ps : List Per} {p : Per} (h : personOk ps p = true) : findFrom p.name 0 ps = none ∧ isName p.name = true ∧ (p.sex = 1 ∨ p.sex = 2) ∧ 0 ≤ p.born ∧ p.born ≤ 9999 ∧ (p.died = -1 ∨ (p.born ≤ p.died ∧ p.died ≤ 9999)) ∧
    parentOk ps p.father 1 p.born = true ∧ parentOk ps p.mother 2 p.born = true := by
  unfold personOk at h
  split at h
  · cases h
  · rename_i hf
    simp only [endYear, Bool.and_eq_true, Bool.or_eq_true, leI_t, eqI_t] at h
    grind
end Go.Proofs.Ytbiagkccgijdlaa


namespace Go.Proofs.Ytbiagkccgijdlaa
open Go.Lg
set_option maxHeartbeats 800000
set_option maxRecDepth 10000
set_option linter.unusedVariables false
set_option linter.unusedSimpArgs false

/-- The family is valid and has the person. -/
def hasP (ps : List Per) (us : List Uni) (p : Int) : Bool := leI 0 p && (ltI p (ps.length : Int) && famOk ps us)
theorem famOk_parts {ps : List Per} {us : List Uni} (h : famOk ps us = true) : ps.length ≤ 40 ∧ us.length ≤ 60 ∧ personsTo ps ps.length = true ∧ unionsTo ps us us.length = true ∧ shallow (depths ps) = true := by
  unfold famOk at h
  simpa only [Bool.and_eq_true, decide_eq_true_eq] using h

def orI (a b : Int) : Int := match eqI a 0 with | true => b | false => a
/-- IsAlive -/
def aliveIn (p : Per) (y : Int) : Bool := leI p.born y && (eqI p.died (-1) || ltI y p.died)
def alive (ps : List Per) (us : List Uni) (p y : Int) : Bool := hasP ps us p && match ps[p.toNat]? with | some x => aliveIn x y | none => false
end Go.Proofs.Ytbiagkccgijdlaa

namespace Go.Proofs.Ytbiagkccgijdlaa
open Go.Lg
set_option maxHeartbeats 1600000
set_option maxRecDepth 10000
set_option linter.unusedVariables false
set_option linter.unusedSimpArgs false

/-! A rule: its name, its sex and place, the steps that it replaces and by which. -/
structure Rul where
  name : ByteArray
  sex : Int
  place : Int
  fr : List Pr
  to : List Pr
def Rul.lv (r : Rul) : LV := .st [.str r.name, .int .i64 r.sex, .int .i64 r.place, .sl (r.fr.map Pr.lv), .sl (r.to.map Pr.lv)]
def Rul.own (r : Rul) (e : Nat) : LV := .st [.str r.name, .int .i64 r.sex, .int .i64 r.place, .own e 2 (r.fr.map Pr.lv), .own e 2 (r.to.map Pr.lv)]
def Rul.eq (r s : Rul) : Bool := eqS r.name s.name && (eqI r.sex s.sex && (eqI r.place s.place && (eqList Pr.eq r.fr s.fr && eqList Pr.eq r.to s.to)))
/-! Comparisons of steps. -/
end Go.Proofs.Ytbiagkccgijdlaa


namespace Go.Proofs.Ytbiagkccgijdlaa
open Go.Lg
set_option maxHeartbeats 1600000
set_option maxRecDepth 10000
set_option linter.unusedVariables false
set_option linter.unusedSimpArgs false

end Go.Proofs.Ytbiagkccgijdlaa

namespace Go.Proofs.Ytbiagkccgijdlaa
open Go.Lg Go.Pm
set_option maxHeartbeats 6400000
set_option maxRecDepth 10000
set_option linter.unusedVariables false
set_option linter.unusedSimpArgs false

/-! ### Types as permutations -/
theorem idx {q : List Int} {y : Int} (e1 : 0 ≤ y) (e2 : y.toNat < q.length) : y = ((y.toNat : Nat) : Int) ∧ (q.map intLV)[y.toNat]? = some (intLV (q.getD y.toNat 0)) :=
  ⟨by omega, by rw [List.getElem?_map, List.getElem?_eq_getElem e2, getD_lt e2]; rfl⟩
end Go.Proofs.Ytbiagkccgijdlaa


namespace Go.Proofs.Ytbiagkccgijdlaa
open Go.Lg Go.Pm
set_option maxHeartbeats 3200000
set_option maxRecDepth 10000
set_option linter.unusedVariables false
set_option linter.unusedSimpArgs false

/-! ### Founders -/
end Go.Proofs.Ytbiagkccgijdlaa

namespace Go.Proofs.Ytbiagkccgijdlaa
open Go.Lg Go.Pm
set_option maxHeartbeats 3200000
set_option maxRecDepth 10000
set_option linter.unusedVariables false
set_option linter.unusedSimpArgs false

end Go.Proofs.Ytbiagkccgijdlaa

namespace Go.Proofs.Ytbiagkccgijdlaa
open Go.Lg
set_option maxHeartbeats 800000
set_option maxRecDepth 10000
set_option linter.unusedVariables false
set_option linter.unusedSimpArgs false

/-! UnionEnd -/
/-- The union's two persons are of the family. -/
structure UniIn (ps : List Per) (u : Uni) : Prop where
  m0 : 0 ≤ u.husband
  ml : u.husband.toNat < ps.length
  w0 : 0 ≤ u.wife
  wl : u.wife.toNat < ps.length
/-- Years are years. -/
structure UniYears (ps : List Per) (u : Uni) (h : UniIn ps u) : Prop where
  t : u.till = -1 ∨ 0 ≤ u.till
  m : (ps[u.husband.toNat]'h.ml).died = -1 ∨ 0 ≤ (ps[u.husband.toNat]'h.ml).died
  w : (ps[u.wife.toNat]'h.wl).died = -1 ∨ 0 ≤ (ps[u.wife.toNat]'h.wl).died

end Go.Proofs.Ytbiagkccgijdlaa

namespace Go.Proofs.Ytbiagkccgijdlaa
open Go.Lg Go.Pm
set_option maxHeartbeats 3200000
set_option maxRecDepth 10000
set_option linter.unusedVariables false
set_option linter.unusedSimpArgs false

/-! ### Exogamy -/
end Go.Proofs.Ytbiagkccgijdlaa

namespace Go.Proofs.Ytbiagkccgijdlaa
open Go.Lg Go.Pm
set_option maxHeartbeats 3200000
set_option maxRecDepth 10000
set_option linter.unusedVariables false
set_option linter.unusedSimpArgs false

/-! ### The eldest first -/
def bornD (ps : List Per) (a : Nat) : Int := match ps[a]? with | some p => p.born | none => 0
def elT (ps : List Per) (a b : Nat) : Bool := decide (bornD ps a < bornD ps b ∨ (bornD ps a = bornD ps b ∧ a < b))
def wantL (q : Nat → Bool) (n : Nat) : List Nat := (List.range n).filter q
def eldL (ps : List Per) (q : Nat → Bool) (n : Nat) : List Nat := (wantL q n).mergeSort fun a b => !elT ps b a
end Go.Proofs.Ytbiagkccgijdlaa


namespace Go.Proofs.Ytbiagkccgijdlaa
open Go.Shelf
set_option maxRecDepth 10000
set_option linter.unusedVariables false

end Go.Proofs.Ytbiagkccgijdlaa


namespace Go.Proofs.Ytbiagkccgijdlaa
open Go.Lg
set_option maxHeartbeats 1600000
set_option maxRecDepth 10000
set_option linter.unusedVariables false
set_option linter.unusedSimpArgs false

end Go.Proofs.Ytbiagkccgijdlaa

namespace Go.Proofs.Ytbiagkccgijdlaa
open Go.Lg
set_option maxHeartbeats 1600000
set_option maxRecDepth 10000
set_option linter.unusedVariables false
set_option linter.unusedSimpArgs false

end Go.Proofs.Ytbiagkccgijdlaa


namespace Go.Proofs.Ytbiagkccgijdlaa
open Go.Lg
set_option maxHeartbeats 1600000
set_option maxRecDepth 10000
set_option linter.unusedVariables false
set_option linter.unusedSimpArgs false

end Go.Proofs.Ytbiagkccgijdlaa


namespace Go.Proofs.Ytbiagkccgijdlaa
open Go.Lg
set_option maxHeartbeats 1600000
set_option maxRecDepth 10000
set_option linter.unusedVariables false
set_option linter.unusedSimpArgs false

end Go.Proofs.Ytbiagkccgijdlaa

namespace Go.Proofs.Ytbiagkccgijdlaa
open Go.Lg
set_option maxHeartbeats 1600000
set_option maxRecDepth 10000
set_option linter.unusedVariables false
set_option linter.unusedSimpArgs false

/-! A table that is filled row by row. -/
/-! ### Steps in a family, as the model has them -/
end Go.Proofs.Ytbiagkccgijdlaa


namespace Go.Proofs.Ytbiagkccgijdlaa
open Go.Lg
set_option maxHeartbeats 6400000
set_option maxRecDepth 10000
set_option linter.unusedVariables false
set_option linter.unusedSimpArgs false

end Go.Proofs.Ytbiagkccgijdlaa

namespace Go.Proofs.Ytbiagkccgijdlaa
open Go.Lg
set_option maxHeartbeats 6400000
set_option maxRecDepth 10000
set_option linter.unusedVariables false
set_option linter.unusedSimpArgs false

end Go.Proofs.Ytbiagkccgijdlaa

namespace Go.Proofs.Ytbiagkccgijdlaa
open Go.Lg
set_option maxHeartbeats 6400000
set_option maxRecDepth 10000
set_option linter.unusedVariables false
set_option linter.unusedSimpArgs false

end Go.Proofs.Ytbiagkccgijdlaa

namespace Go.Proofs.Ytbiagkccgijdlaa
open Go.Lg
set_option maxHeartbeats 6400000
set_option maxRecDepth 10000
set_option linter.unusedVariables false
set_option linter.unusedSimpArgs false

end Go.Proofs.Ytbiagkccgijdlaa

namespace Go.Proofs.Ytbiagkccgijdlaa
open Go.Lg
set_option maxHeartbeats 6400000
set_option maxRecDepth 10000
set_option linter.unusedVariables false
set_option linter.unusedSimpArgs false

end Go.Proofs.Ytbiagkccgijdlaa

namespace Go.Proofs.Ytbiagkccgijdlaa
open Go.Lg
set_option maxHeartbeats 6400000
set_option maxRecDepth 10000
set_option linter.unusedVariables false
set_option linter.unusedSimpArgs false

end Go.Proofs.Ytbiagkccgijdlaa

namespace Go.Proofs.Ytbiagkccgijdlaa
open Go.Lg
set_option maxHeartbeats 3200000
set_option maxRecDepth 10000
set_option linter.unusedVariables false
set_option linter.unusedSimpArgs false

end Go.Proofs.Ytbiagkccgijdlaa

namespace Go.Proofs.Ytbiagkccgijdlaa
open Go.Lg
set_option maxHeartbeats 3200000
set_option maxRecDepth 10000
set_option linter.unusedVariables false
set_option linter.unusedSimpArgs false

/-! ### Steps in a family, as the program has them -/
def chB (x : Per) (b : Int) : Bool := eqI x.father b || eqI x.mother b
end Go.Proofs.Ytbiagkccgijdlaa

namespace Go.Proofs.Ytbiagkccgijdlaa
open Go.Lg
set_option maxHeartbeats 3200000
set_option maxRecDepth 10000
set_option linter.unusedVariables false
set_option linter.unusedSimpArgs false

end Go.Proofs.Ytbiagkccgijdlaa

namespace Go.Proofs.Ytbiagkccgijdlaa
open Go.Lg
set_option maxHeartbeats 6400000
set_option maxRecDepth 10000
set_option linter.unusedVariables false
set_option linter.unusedSimpArgs false

end Go.Proofs.Ytbiagkccgijdlaa

namespace Go.Proofs.Ytbiagkccgijdlaa
open Go.Lg
set_option maxHeartbeats 6400000
set_option maxRecDepth 10000
set_option linter.unusedVariables false
set_option linter.unusedSimpArgs false

end Go.Proofs.Ytbiagkccgijdlaa

namespace Go.Proofs.Ytbiagkccgijdlaa
open Go.Lg
set_option maxHeartbeats 6400000
set_option maxRecDepth 10000
set_option linter.unusedVariables false
set_option linter.unusedSimpArgs false

end Go.Proofs.Ytbiagkccgijdlaa

namespace Go.Proofs.Ytbiagkccgijdlaa
open Go.Lg
set_option maxHeartbeats 6400000
set_option maxRecDepth 10000
set_option linter.unusedVariables false
set_option linter.unusedSimpArgs false

end Go.Proofs.Ytbiagkccgijdlaa

namespace Go.Proofs.Ytbiagkccgijdlaa
open Go.Lg
set_option maxHeartbeats 6400000
set_option maxRecDepth 10000
set_option linter.unusedVariables false
set_option linter.unusedSimpArgs false

end Go.Proofs.Ytbiagkccgijdlaa

namespace Go.Proofs.Ytbiagkccgijdlaa
open Go.Lg
set_option maxHeartbeats 3200000
set_option maxRecDepth 10000
set_option linter.unusedVariables false
set_option linter.unusedSimpArgs false

/-! ### In a valid family both ways of following a step are one -/
theorem par_one {ps : List Per} {i : Nat} {x sx born : Int} (h : parentOk (ps.take i) x sx born = true) :
    (x = -1 ∨ (0 ≤ x ∧ x.toNat < ps.length)) ∧ ∀ (b : Nat) (hb : b < ps.length), x = (b : Int) → ps[b].sex = sx := by
  unfold parentOk at h
  simp only [Bool.or_eq_true, eqI_t, Bool.and_eq_true, leI_t] at h
  rcases h with h | ⟨h0, h1⟩
  · exact ⟨.inl h, fun b hb e => by omega⟩
  · split at h1
    · cases h1
    · rename_i q hq
      obtain ⟨hl, e⟩ := List.getElem?_eq_some_iff.1 hq
      simp only [Bool.and_eq_true, eqI_t] at h1
      rw [List.length_take] at hl
      rw [List.getElem_take] at e
      refine ⟨.inr ⟨h0, by omega⟩, fun b hb ex => ?_⟩
      have eb : x.toNat = b := by omega
      subst eb
      rw [e]
      exact h1.1
theorem par_sex {ps : List Per} {us : List Uni} (h : famOk ps us = true) {i : Nat} (hi : i < ps.length) :
    ((ps[i].father = -1 ∨ (0 ≤ ps[i].father ∧ ps[i].father.toNat < ps.length)) ∧ ∀ (b : Nat) (hb : b < ps.length), ps[i].father = (b : Int) → ps[b].sex = 1) ∧
    ((ps[i].mother = -1 ∨ (0 ≤ ps[i].mother ∧ ps[i].mother.toNat < ps.length)) ∧ ∀ (b : Nat) (hb : b < ps.length), ps[i].mother = (b : Int) → ps[b].sex = 2) := by
  obtain ⟨_, _, hp, _, _⟩ := famOk_parts h
  obtain ⟨_, _, _, _, _, _, p1, p2⟩ := personOk_spec (personsTo_get hp hi hi)
  exact ⟨par_one p1, par_one p2⟩
/-- A father is no one's mother. -/
theorem far {ps : List Per} {us : List Uni} (h : famOk ps us = true) {i j : Nat} (hi : i < ps.length) (hj : j < ps.length) (e : ps[i].father ≠ -1) : ps[i].father ≠ ps[j].mother := by
  obtain ⟨⟨f1, f2⟩, _⟩ := par_sex h hi
  obtain ⟨_, _, m2⟩ := par_sex h hj
  intro k
  rcases f1 with f1 | ⟨f0, fl⟩
  · exact e f1
  · have a1 := f2 _ fl (by omega)
    have a2 := m2 _ fl (by omega)
    omega

section
variable {ps : List Per} {us : List Uni} {s : Pr} (h : famOk ps us = true)
include h
end

end Go.Proofs.Ytbiagkccgijdlaa

namespace Go.Proofs.Ytbiagkccgijdlaa
open Go.Lg Go.Pm
set_option maxHeartbeats 3200000
set_option maxRecDepth 10000
set_option linter.unusedVariables false
set_option linter.unusedSimpArgs false

/-! ### Children and siblings -/
def chQ (ps : List Per) (p : Int) (i : Nat) : Bool := match ps[i]? with | some x => chB x p | none => false
end Go.Proofs.Ytbiagkccgijdlaa


namespace Go.Proofs.Ytbiagkccgijdlaa
open Go.Lg
set_option maxHeartbeats 6400000
set_option maxRecDepth 10000
set_option linter.unusedVariables false
set_option linter.unusedSimpArgs false

end Go.Proofs.Ytbiagkccgijdlaa

namespace Go.Proofs.Ytbiagkccgijdlaa
open Go.Lg
set_option maxHeartbeats 1600000
set_option maxRecDepth 10000
set_option linter.unusedVariables false
set_option linter.unusedSimpArgs false

/-! ### Rows of texts -/
end Go.Proofs.Ytbiagkccgijdlaa

namespace Go.Proofs.Ytbiagkccgijdlaa
open Go.Lg
set_option maxHeartbeats 3200000
set_option maxRecDepth 10000
set_option linter.unusedVariables false
set_option linter.unusedSimpArgs false

end Go.Proofs.Ytbiagkccgijdlaa

namespace Go.Proofs.Ytbiagkccgijdlaa
open Go.Lg
set_option maxHeartbeats 3200000
set_option maxRecDepth 10000
set_option linter.unusedVariables false
set_option linter.unusedSimpArgs false

end Go.Proofs.Ytbiagkccgijdlaa

namespace Go.Proofs.Ytbiagkccgijdlaa
open Go.Lg
set_option maxHeartbeats 3200000
set_option maxRecDepth 10000
set_option linter.unusedVariables false
set_option linter.unusedSimpArgs false

end Go.Proofs.Ytbiagkccgijdlaa

namespace Go.Proofs.Ytbiagkccgijdlaa
open Go.Lg
set_option maxHeartbeats 3200000
set_option maxRecDepth 10000
set_option linter.unusedVariables false
set_option linter.unusedSimpArgs false

end Go.Proofs.Ytbiagkccgijdlaa

namespace Go.Proofs.Ytbiagkccgijdlaa
open Go.Lg
set_option maxHeartbeats 6400000
set_option maxRecDepth 10000
set_option linter.unusedVariables false
set_option linter.unusedSimpArgs false

end Go.Proofs.Ytbiagkccgijdlaa

namespace Go.Proofs.Ytbiagkccgijdlaa
open Go.Lg Go.Pm
set_option maxHeartbeats 3200000
set_option maxRecDepth 10000
set_option linter.unusedVariables false
set_option linter.unusedSimpArgs false

end Go.Proofs.Ytbiagkccgijdlaa

set_option linter.unusedVariables false
set_option linter.unusedSimpArgs false
/-! slices.Repeat of one number, walked at this program. -/
namespace Go.Proofs.SB
open Go.RowKit
set_option maxHeartbeats 2000000
set_option maxRecDepth 100000
/-- So many of the number stand in a row, zeros behind them. -/
def part (c : Int) (n k : Nat) : List Value := List.replicate k (.int .i64 c) ++ List.replicate (n - k) (.int .i64 0)
end Go.Proofs.SB

namespace Go.Proofs.Ytbiagkccgijdlaa
open Go.Lg Go.RowKit
set_option maxHeartbeats 1600000
set_option maxRecDepth 10000
set_option linter.unusedVariables false
set_option linter.unusedSimpArgs false

end Go.Proofs.Ytbiagkccgijdlaa

namespace Go.Proofs.Ytbiagkccgijdlaa
open Go.Lg
set_option maxHeartbeats 800000
set_option linter.unusedVariables false
set_option linter.unusedSimpArgs false

/-! ### Steps up -/
/-- r is a parent of x. -/
def isPa (ps : List Per) (x r : Nat) : Prop := ∃ h : x < ps.length, ps[x].father = (r : Int) ∨ ps[x].mother = (r : Int)
/-- So many steps lead up from one person to another. -/
inductive UpN (ps : List Per) : Nat → Nat → Nat → Prop
  | zero (p : Nat) : UpN ps 0 p p
  | step {n p r q : Nat} : isPa ps p r → UpN ps n r q → UpN ps (n + 1) p q
theorem UpN.snoc {ps : List Per} {n p x q : Nat} (h : UpN ps n p x) (hx : isPa ps x q) : UpN ps (n + 1) p q := by
  induction h with
  | zero p => exact .step hx (.zero q)
  | step h1 h2 ih => exact .step h1 (ih hx)
theorem UpN.last {ps : List Per} {n p q : Nat} (h : UpN ps (n + 1) p q) : ∃ x, UpN ps n p x ∧ isPa ps x q := by
  induction n generalizing p with
  | zero =>
    cases h with
    | step h1 h2 => cases h2 with | zero => exact ⟨p, .zero p, h1⟩
  | succ n ih =>
    cases h with
    | step h1 h2 =>
      obtain ⟨x, hx, hq⟩ := ih h2
      exact ⟨x, .step h1 hx, hq⟩
theorem isPa_lt {ps : List Per} (hp : parsIn ps) {x r : Nat} (h : isPa ps x r) : r < x := by
  obtain ⟨hx, h⟩ := h
  have := hp x hx
  rcases h with h | h
  · rcases this.1 with h1 | h1 <;> omega
  · rcases this.2 with h1 | h1 <;> omega
theorem UpN.le {ps : List Per} (hp : parsIn ps) {n p q : Nat} (h : UpN ps n p q) : q + n ≤ p := by
  induction h with
  | zero p => omega
  | step h1 h2 ih => have := isPa_lt hp h1; omega
theorem UpN.lt {ps : List Per} {n p q : Nat} (h : UpN ps n p q) (hq : q < ps.length) (h0 : n ≠ 0) : p < ps.length := by
  cases h with
  | zero => exact absurd rfl h0
  | step h1 _ => exact h1.1
theorem UpN.add {ps : List Per} {n p x : Nat} (h : UpN ps n p x) {m q : Nat} (k : UpN ps m x q) : UpN ps (n + m) p q := by
  induction h with
  | zero p => rw [Nat.zero_add]; exact k
  | step h1 h2 ih => rw [Nat.add_right_comm]; exact .step h1 (ih k)
/-- The depth of a person. -/
def dpt (ps : List Per) (i : Nat) : Int := (depths ps).getD i 0
theorem depTo_get (ps : List Per) {i k : Nat} (h : i < k) : ∀ n, k ≤ n → (depTo ps n).getD i 0 = (depTo ps k).getD i 0 := by
  intro n hn
  induction n with
  | zero => omega
  | succ n ih =>
    rcases Nat.lt_or_ge n k with h1 | h1
    · have : k = n + 1 := by omega
      subst this; rfl
    · have e := ih h1
      rw [← e]
      simp only [depTo, List.getD_eq_getElem?_getD]
      rw [List.getElem?_append_left (by rw [depTo_len]; omega)]
theorem dpt_rec {ps : List Per} {i : Nat} (h : i < ps.length) : dpt ps i = dep2 (depTo ps i) ps[i] := by
  unfold dpt depths
  rw [depTo_get ps (i := i) (k := i + 1) (by omega) ps.length (by omega), depTo_succ h, List.getD_eq_getElem?_getD, List.getElem?_append_right (by rw [depTo_len]; exact Nat.le_refl _), depTo_len, Nat.sub_self]
  rfl
theorem dpt_par {ps : List Per} (hp : parsIn ps) {x r : Nat} (h : isPa ps x r) : dpt ps r + 1 ≤ dpt ps x := by
  have hr := isPa_lt hp h
  obtain ⟨hx, h⟩ := h
  have e : dep (depTo ps x) (r : Int) = dpt ps r + 1 := by
    unfold dep
    rw [leI_t.2 (by omega : (0 : Int) ≤ (r : Int))]
    show (depTo ps x).getD r 0 + 1 = _
    unfold dpt depths
    rw [depTo_get ps hr ps.length (by omega)]
  rw [dpt_rec hx]
  unfold dep2 maxI
  rcases h with h | h
  · rw [h, e]; split <;> omega
  · rw [h, e]; split <;> omega
theorem dpt_range {ps : List Per} (i : Nat) : 0 ≤ dpt ps i := by
  unfold dpt
  rw [List.getD_eq_getElem?_getD]
  cases e : (depths ps)[i]? with
  | none => exact Int.le_refl _
  | some v => exact (depTo_range ps _ v (List.mem_of_getElem? e)).1
theorem dpt_small {ps : List Per} (h : shallow (depths ps) = true) (i : Nat) : dpt ps i ≤ 10 := by
  unfold dpt
  rw [List.getD_eq_getElem?_getD]
  cases e : (depths ps)[i]? with
  | none => show (0 : Int) ≤ 10; omega
  | some v =>
    unfold shallow at h
    exact leI_t.1 (List.all_eq_true.1 h v (List.mem_of_getElem? e))
theorem UpN.dpt {ps : List Per} (hp : parsIn ps) {n p q : Nat} (h : UpN ps n p q) : dpt ps q + n ≤ dpt ps p := by
  induction h with
  | zero p => simp
  | step h1 h2 ih => have := dpt_par hp h1; push_cast; omega
theorem UpN.small {ps : List Per} (hp : parsIn ps) (hs : shallow (depths ps) = true) {n p q : Nat} (h : UpN ps n p q) : n ≤ 10 := by
  have h1 := h.dpt hp
  have h2 := dpt_small hs p
  have h3 := dpt_range (ps := ps) q
  omega
/-- The least number of steps up; -1 if there are none. -/
def isLeast (ps : List Per) (p q : Nat) (m : Int) : Prop := (∀ n, UpN ps n p q → 0 ≤ m ∧ m ≤ n) ∧ (m = -1 ∨ (0 ≤ m ∧ UpN ps m.toNat p q))
theorem isLeast.zero {ps : List Per} {p q : Nat} {m : Int} (h : isLeast ps p q m) : m = 0 ↔ p = q := by
  constructor
  · intro e
    subst e
    rcases h.2 with h2 | ⟨_, h3⟩
    · omega
    · cases h3; rfl
  · intro e
    subst e
    have := h.1 0 (.zero p); omega
theorem isLeast.range {ps : List Per} {p q : Nat} {m : Int} (h : isLeast ps p q m) : -1 ≤ m := by
  rcases h.2 with h | ⟨h, _⟩ <;> omega

/-! ### As the model reckons them -/
theorem known_pa {ps : List Per} (hp : parsIn ps) {x : Nat} (h : x < ps.length) {v : Int} : v ∈ known ps[x] ↔ ∃ r : Nat, v = r ∧ isPa ps x r := by
  have := hp x h
  unfold known notNone
  simp only [List.mem_filter, List.mem_cons, List.not_mem_nil, or_false, notB_t, eqI_f]
  constructor
  · rintro ⟨h1, h2⟩
    have h0 : 0 ≤ v := by
      rcases h1 with h1 | h1
      · rcases this.1 with k | k <;> omega
      · rcases this.2 with k | k <;> omega
    refine ⟨v.toNat, by omega, h, ?_⟩
    rcases h1 with h1 | h1
    · exact .inl (by omega)
    · exact .inr (by omega)
  · rintro ⟨r, rfl, _, h1⟩
    refine ⟨?_, by omega⟩
    rcases h1 with h1 | h1
    · exact .inl h1.symm
    · exact .inr h1.symm
/-- One parent is laid so many steps up, if that is less. -/
def rlx (o : List Int) (d : Int) (q : Int) : List Int := match ltI (o.getD q.toNat 0) 0 || ltI d (o.getD q.toNat 0) with | true => o.set q.toNat d | false => o
def rlxs (o : List Int) (d : Int) (qs : List Int) : List Int := qs.foldl (fun o q => rlx o d q) o
def relax (ps : List Per) (o : List Int) (x : Nat) : List Int := match ltI (o.getD x 0) 0 with
  | true => o
  | false => match ps[x]? with | some p => rlxs o (o.getD x 0 + 1) (known p) | none => o
def upTo (ps : List Per) (p : Nat) : Nat → List Int
  | 0 => (List.replicate ps.length (-1)).set p 0
  | j + 1 => relax ps (upTo ps p j) (ps.length - 1 - j)
/-- spec.l8Up. -/
def upS (ps : List Per) (p : Nat) : List Int := upTo ps p ps.length
theorem rlx_len (o : List Int) (d q : Int) : (rlx o d q).length = o.length := by unfold rlx; split <;> simp
theorem rlxs_len (d : Int) : ∀ (qs : List Int) (o : List Int), (rlxs o d qs).length = o.length
  | [], o => rfl
  | q :: qs, o => by show (rlxs (rlx o d q) d qs).length = _; rw [rlxs_len d qs, rlx_len]
theorem relax_len (ps : List Per) (o : List Int) (x : Nat) : (relax ps o x).length = o.length := by
  unfold relax; split
  · rfl
  · split
    · exact rlxs_len _ _ _
    · rfl
theorem getD_set {o : List Int} {i j : Nat} {v : Int} (h : i < o.length) : (o.set i v).getD j 0 = if i = j then v else o.getD j 0 := by
  simp only [List.getD_eq_getElem?_getD, List.getElem?_set]
  split
  · rename_i e; subst e; simp [h]
  · rfl
/-- What may be known of the row when all above x have been looked at. -/
structure UpInv (ps : List Per) (p x : Nat) (o : List Int) : Prop where
  len : o.length = ps.length
  own : o.getD p 0 = 0
  real : ∀ q, q < ps.length → o.getD q 0 = -1 ∨ (0 ≤ o.getD q 0 ∧ UpN ps (o.getD q 0).toNat p q)
  done : ∀ y, x ≤ y → y < ps.length → 0 ≤ o.getD y 0 → ∀ r, isPa ps y r → 0 ≤ o.getD r 0 ∧ o.getD r 0 ≤ o.getD y 0 + 1
theorem rlx_get {o : List Int} {d q : Int} (h0 : 0 ≤ q) (hq : q.toNat < o.length) (j : Nat) : (rlx o d q).getD j 0 = if q.toNat = j ∧ (o.getD j 0 < 0 ∨ d < o.getD j 0) then d else o.getD j 0 := by
  unfold rlx
  split
  · rename_i e
    simp only [Bool.or_eq_true, ltI_t] at e
    rw [getD_set hq]
    by_cases hj : q.toNat = j
    · rw [if_pos hj, if_pos ⟨hj, by rw [← hj]; exact e⟩]
    · rw [if_neg hj, if_neg (fun h => hj h.1)]
  · rename_i e
    rw [Bool.or_eq_false_iff, ltI_f, ltI_f] at e
    rw [if_neg]
    rintro ⟨rfl, h⟩
    omega
/-- What laying all parents of x does. -/
theorem rlxs_get {n : Nat} {d : Int} (hd : 0 ≤ d) : ∀ (qs : List Int) (o : List Int), o.length = n → (∀ v ∈ qs, 0 ≤ v ∧ v.toNat < n) →
    ∀ j, ((rlxs o d qs).getD j 0 = o.getD j 0 ∨ ((j : Int) ∈ qs ∧ (rlxs o d qs).getD j 0 = d ∧ (o.getD j 0 < 0 ∨ d < o.getD j 0))) ∧ ((j : Int) ∈ qs → 0 ≤ (rlxs o d qs).getD j 0 ∧ (rlxs o d qs).getD j 0 ≤ d)
  | [], o, _, _, j => ⟨.inl rfl, fun h => by simp at h⟩
  | q :: qs, o, hl, hq, j => by
    obtain ⟨h0, h1⟩ := hq q List.mem_cons_self
    have ih := rlxs_get hd qs (rlx o d q) (by rw [rlx_len, hl]) (fun v hv => hq v (List.mem_cons_of_mem _ hv)) j
    have e := rlx_get (d := d) h0 (by rw [hl]; exact h1) j
    change ((rlxs (rlx o d q) d qs).getD j 0 = o.getD j 0 ∨ ((j : Int) ∈ q :: qs ∧ (rlxs (rlx o d q) d qs).getD j 0 = d ∧ _)) ∧ ((j : Int) ∈ q :: qs → 0 ≤ (rlxs (rlx o d q) d qs).getD j 0 ∧ (rlxs (rlx o d q) d qs).getD j 0 ≤ d)
    obtain ⟨i1, i2⟩ := ih
    generalize (rlxs (rlx o d q) d qs).getD j 0 = R at i1 i2 ⊢
    by_cases hj : q.toNat = j
    · have hm : (j : Int) ∈ q :: qs := by rw [show (j : Int) = q by omega]; exact List.mem_cons_self
      by_cases hc : o.getD j 0 < 0 ∨ d < o.getD j 0
      · rw [if_pos ⟨hj, hc⟩] at e
        rw [e] at i1
        have : R = d := by rcases i1 with i1 | i1 <;> omega
        exact ⟨.inr ⟨hm, this, hc⟩, fun _ => by omega⟩
      · rw [if_neg (fun h => hc h.2)] at e
        rw [e] at i1
        have hR : R = o.getD j 0 := by rcases i1 with i1 | ⟨_, _, i1⟩; exact i1; exact absurd i1 hc
        exact ⟨.inl hR, fun _ => by omega⟩
    · rw [if_neg (fun h => hj h.1)] at e
      rw [e] at i1
      have hne : (j : Int) ≠ q := by omega
      refine ⟨?_, fun h => i2 ?_⟩
      · rcases i1 with i1 | ⟨h, i1⟩
        · exact .inl i1
        · exact .inr ⟨List.mem_cons_of_mem _ h, i1⟩
      · rcases List.mem_cons.1 h with h | h
        · exact absurd h hne
        · exact h
theorem kn_in {ps : List Per} (hp : parsIn ps) {x : Nat} (h : x < ps.length) : ∀ v ∈ known ps[x], 0 ≤ v ∧ v.toNat < x := fun v hv => by
  obtain ⟨r, rfl, hr⟩ := (known_pa hp h).1 hv
  have := isPa_lt hp hr
  omega
theorem UpInv.step {ps : List Per} (hp : parsIn ps) {p x : Nat} {o : List Int} (hx : x < ps.length) (h : UpInv ps p (x + 1) o) : UpInv ps p x (relax ps o x) := by
  have hl : (relax ps o x).length = ps.length := by rw [relax_len, h.len]
  unfold relax at hl ⊢
  split at hl
  · rename_i hneg
    rw [ltI_t] at hneg
    refine ⟨h.len, h.own, h.real, fun y hy hyl hy0 => ?_⟩
    rcases Nat.lt_or_ge x y with h1 | h1
    · exact h.done y h1 hyl hy0
    · have : y = x := by omega
      subst this; omega
  · rename_i hpos
    rw [ltI_f] at hpos
    rw [List.getElem?_eq_getElem hx] at hl ⊢
    have hk := kn_in hp hx
    have g := rlxs_get (n := ps.length) (d := o.getD x 0 + 1) (by omega) (known ps[x]) o h.len (fun v hv => ⟨(hk v hv).1, by have := (hk v hv).2; omega⟩)
    have hsame : ∀ j, x ≤ j → (rlxs o (o.getD x 0 + 1) (known ps[x])).getD j 0 = o.getD j 0 := fun j hj => by
      rcases (g j).1 with e | ⟨e, _⟩
      · exact e
      · have := hk _ e; omega
    have hupx : UpN ps (o.getD x 0).toNat p x := by
      rcases h.real x hx with e | e
      · omega
      · exact e.2
    refine ⟨hl, ?_, ?_, ?_⟩
    · rcases (g p).1 with e | ⟨_, e, e2⟩
      · rw [e]; exact h.own
      · rw [h.own] at e2; omega
    · intro q hq
      rcases (g q).1 with e | ⟨hm, e, _⟩
      · show (rlxs o (o.getD x 0 + 1) (known ps[x])).getD q 0 = -1 ∨ _
        rw [e]; exact h.real q hq
      · right
        show 0 ≤ (rlxs o (o.getD x 0 + 1) (known ps[x])).getD q 0 ∧ _
        rw [e]
        obtain ⟨r, hr, hpa⟩ := (known_pa hp hx).1 hm
        have hqr : q = r := by omega
        subst hqr
        refine ⟨by omega, ?_⟩
        have := hupx.snoc hpa
        rwa [show (o.getD x 0 + 1).toNat = (o.getD x 0).toNat + 1 by omega]
    · intro y hy hyl hy0 r hr
      show 0 ≤ (rlxs o (o.getD x 0 + 1) (known ps[x])).getD r 0 ∧ (rlxs o (o.getD x 0 + 1) (known ps[x])).getD r 0 ≤ (rlxs o (o.getD x 0 + 1) (known ps[x])).getD y 0 + 1
      have hy0' : 0 ≤ o.getD y 0 := by rw [← hsame y hy]; exact hy0
      rw [hsame y hy]
      rcases Nat.lt_or_ge x y with h1 | h1
      · obtain ⟨d1, d2⟩ := h.done y h1 hyl hy0' r hr
        rcases (g r).1 with e | ⟨hm, e, e2⟩
        · rw [e]; exact ⟨d1, d2⟩
        · rw [e]; omega
      · have : y = x := by omega
        subst this
        exact (g r).2 ((known_pa hp hx).2 ⟨r, rfl, hr⟩)
/-- So many steps up; -1 if there are none. -/
def upd (ps : List Per) (p q : Nat) : Int := (upS ps p).getD q 0

/-! ### As the program reckons them -/
end Go.Proofs.Ytbiagkccgijdlaa


namespace Go.Proofs.Ytbiagkccgijdlaa
open Go.Lg
set_option maxHeartbeats 800000
set_option linter.unusedVariables false
set_option linter.unusedSimpArgs false

/-! ### Fractions in their lowest terms -/
def rdc : Nat → Nat → Nat × Nat
  | n, 0 => (n, 0)
  | n, e + 1 => if n % 2 = 0 then rdc (n / 2) e else (n, e + 1)
/-- So many parts in lowest terms. -/
def rd (v : Nat) : Nat × Nat := rdc v 30
end Go.Proofs.Ytbiagkccgijdlaa


namespace Go.Proofs.Ytbiagkccgijdlaa
open Go.Lg
set_option maxHeartbeats 800000
set_option linter.unusedVariables false
set_option linter.unusedSimpArgs false

/-! ### Kinship in parts -/
def wholeN : Nat := 1073741824
/-- The kinship of two persons, out of rows in which each one stands with those before. -/
def kAt (T : List (List Nat)) (x y : Nat) : Nat := (T.getD (max x y) []).getD (min x y) 0
def kSum (T : List (List Nat)) (b : Nat) (qs : List Int) : Nat := (qs.map fun q => kAt T q.toNat b / 2).sum
def kPar (T : List (List Nat)) (p : Per) : Nat := match eqI p.father (-1) || eqI p.mother (-1) with | true => 0 | false => kAt T p.father.toNat p.mother.toNat
def kRow (T : List (List Nat)) (k : Nat) (p : Per) : List Nat := ((List.range k).map fun b => kSum T b (known p)) ++ [wholeN / 2 + kPar T p / 2]
def kTo (ps : List Per) : Nat → List (List Nat)
  | 0 => []
  | k + 1 => kTo ps k ++ [match ps[k]? with | some p => kRow (kTo ps k) k p | none => []]
/-- What is known of the first k rows: kinships are whole numbers of parts as long as nobody is too deep, and at most a whole. -/
structure KInv (ps : List Per) (k : Nat) : Prop where
  dvd : ∀ a b, a < k → b < k → 2 ^ (29 - (dpt ps a).toNat - (dpt ps b).toNat) ∣ kAt (kTo ps k) a b
  le : ∀ a b, a < k → b < k → kAt (kTo ps k) a b ≤ wholeN
end Go.Proofs.Ytbiagkccgijdlaa


namespace Go.Proofs.Ytbiagkccgijdlaa
open Go.Lg
set_option maxHeartbeats 3200000
set_option maxRecDepth 10000
set_option linter.unusedVariables false
set_option linter.unusedSimpArgs false

/-! ### The table of least steps -/
end Go.Proofs.Ytbiagkccgijdlaa

namespace Go.Proofs.Ytbiagkccgijdlaa
open Go.Lg Go.Pm
set_option maxHeartbeats 3200000
set_option maxRecDepth 10000
set_option linter.unusedVariables false
set_option linter.unusedSimpArgs false

end Go.Proofs.Ytbiagkccgijdlaa

namespace Go.Proofs.Ytbiagkccgijdlaa
open Go.Lg Go.Pm
set_option maxHeartbeats 3200000
set_option maxRecDepth 10000
set_option linter.unusedVariables false
set_option linter.unusedSimpArgs false

end Go.Proofs.Ytbiagkccgijdlaa

namespace Go.Proofs.Ytbiagkccgijdlaa
open Go.Lg Go.Pm
set_option maxHeartbeats 3200000
set_option maxRecDepth 10000
set_option linter.unusedVariables false
set_option linter.unusedSimpArgs false

def belI (x n : Int) : Bool := leI 0 x && ltI x n
theorem isBelow_spec (x n : Int) : FSpec env.P 51 [.int .i64 x, .int .i64 n] (.bool (belI x n)) := by
  refine FSpec_of_code env_ok (fn := Try.f51) Try.func51 rfl Try.call51 _ _ ?_
  unfold belI
  ((repeat ((conv => whnf); first | refine brT ?_ | refine brF ?_)); conv => whnf)
  (refine ⟨fun g => ?_, fun g => ?_⟩ <;> rw [g])
  · ((repeat ((conv => whnf); first | refine brT ?_ | refine brF ?_)); conv => whnf); exact fin rfl
  · ((repeat ((conv => whnf); first | refine brT ?_ | refine brF ?_)); conv => whnf); exact fin rfl
end Go.Proofs.Ytbiagkccgijdlaa

namespace Go.Proofs.Ytbiagkccgijdlaa
open Go.Lg Go.Pm
set_option maxHeartbeats 6400000
set_option maxRecDepth 10000
set_option linter.unusedVariables false
set_option linter.unusedSimpArgs false

/-! ### Other names -/
end Go.Proofs.Ytbiagkccgijdlaa

namespace Go.Proofs.Ytbiagkccgijdlaa
open Go.Lg Go.Pm
set_option maxHeartbeats 6400000
set_option maxRecDepth 10000
set_option linter.unusedVariables false
set_option linter.unusedSimpArgs false

end Go.Proofs.Ytbiagkccgijdlaa

namespace Go.Proofs.Ytbiagkccgijdlaa
open Go.Lg Go.Pm
set_option maxHeartbeats 6400000
set_option maxRecDepth 10000
set_option linter.unusedVariables false
set_option linter.unusedSimpArgs false

end Go.Proofs.Ytbiagkccgijdlaa

namespace Go.Proofs.Ytbiagkccgijdlaa
open Go.Lg Go.Pm
set_option maxHeartbeats 6400000
set_option maxRecDepth 10000
set_option linter.unusedVariables false
set_option linter.unusedSimpArgs false

end Go.Proofs.Ytbiagkccgijdlaa

namespace Go.Proofs.Ytbiagkccgijdlaa
open Go.Lg Go.Pm
set_option maxHeartbeats 6400000
set_option maxRecDepth 10000
set_option linter.unusedVariables false
set_option linter.unusedSimpArgs false

end Go.Proofs.Ytbiagkccgijdlaa

namespace Go.Proofs.Ytbiagkccgijdlaa
open Go.Lg Go.Pm
set_option maxHeartbeats 6400000
set_option maxRecDepth 10000
set_option linter.unusedVariables false
set_option linter.unusedSimpArgs false

end Go.Proofs.Ytbiagkccgijdlaa

namespace Go.Proofs.Ytbiagkccgijdlaa
open Go.Lg Go.Pm
set_option maxHeartbeats 6400000
set_option maxRecDepth 10000
set_option linter.unusedVariables false
set_option linter.unusedSimpArgs false

end Go.Proofs.Ytbiagkccgijdlaa

namespace Go.Proofs.Ytbiagkccgijdlaa
open Go.Lg Go.Pm
set_option maxHeartbeats 6400000
set_option maxRecDepth 10000
set_option linter.unusedVariables false
set_option linter.unusedSimpArgs false

/-! ### Products -/
def smallI (m : Nat) (a : List Int) : Prop := ∀ x ∈ a, 0 ≤ x ∧ x < m
theorem smallI.at {m : Nat} {a : List Int} (h : smallI m a) {i : Nat} (hi : i < a.length) : 0 ≤ a.getD i 0 ∧ a.getD i 0 < m := by rw [getD_lt hi]; exact h _ (List.getElem_mem hi)
end Go.Proofs.Ytbiagkccgijdlaa

namespace Go.Proofs.Ytbiagkccgijdlaa
open Go.Lg Go.Pm
set_option maxHeartbeats 6400000
set_option maxRecDepth 10000
set_option linter.unusedVariables false
set_option linter.unusedSimpArgs false

end Go.Proofs.Ytbiagkccgijdlaa

namespace Go.Proofs.Ytbiagkccgijdlaa
open Go.Lg Go.Pm
set_option maxHeartbeats 6400000
set_option maxRecDepth 10000
set_option linter.unusedVariables false
set_option linter.unusedSimpArgs false

end Go.Proofs.Ytbiagkccgijdlaa

namespace Go.Proofs.Ytbiagkccgijdlaa
open Go.Lg Go.Pm
set_option maxHeartbeats 6400000
set_option maxRecDepth 10000
set_option linter.unusedVariables false
set_option linter.unusedSimpArgs false

end Go.Proofs.Ytbiagkccgijdlaa

namespace Go.Proofs.Ytbiagkccgijdlaa
open Go.Lg Go.Pm
set_option maxHeartbeats 6400000
set_option maxRecDepth 10000
set_option linter.unusedVariables false
set_option linter.unusedSimpArgs false

/-! ### The order of systems -/
end Go.Proofs.Ytbiagkccgijdlaa


namespace Go.Proofs.Ytbiagkccgijdlaa
open Go.Lg Go.Pm
set_option maxHeartbeats 3200000
set_option maxRecDepth 10000
set_option linter.unusedVariables false
set_option linter.unusedSimpArgs false

def oL (p : Option (List Int)) : List Int := p.getD []
def fl (xss : List (Option (List Int))) : List Int := (xss.map oL).flatten
end Go.Proofs.Ytbiagkccgijdlaa

namespace Go.Proofs.Ytbiagkccgijdlaa
open Go.Lg Go.Pm
set_option maxHeartbeats 6400000
set_option maxRecDepth 10000
set_option linter.unusedVariables false
set_option linter.unusedSimpArgs false

/-! ### All permutations, one place after the other -/
def hasI (l : List Int) (x : Int) : Bool := l.any fun y => eqI x y
end Go.Proofs.Ytbiagkccgijdlaa

namespace Go.Proofs.Ytbiagkccgijdlaa
open Go.Lg Go.Pm
set_option maxHeartbeats 1600000
set_option maxRecDepth 10000
set_option linter.unusedVariables false
set_option linter.unusedSimpArgs false

/-! ### Customs, children in the order of a custom, heirs below: what they are, without a program -/
structure Cus where
  prefer : Int
  young : Bool
  repr : Bool
def Cus.lv (x : Cus) : LV := .st [.int .i64 x.prefer, .bool x.young, .bool x.repr]
def cusOk (x : Cus) : Bool := leI 0 x.prefer && leI x.prefer 4
def sexG (p : Int) : List (List Int) := match eqI p 1 with
  | true => [[1], [2]]
  | false => match eqI p 2 with
    | true => [[2], [1]]
    | false => match eqI p 3 with
      | true => [[1]]
      | false => match eqI p 4 with
        | true => [[2]]
        | false => [[1, 2]]
def sexD (ps : List Per) (i : Nat) : Int := match ps[i]? with | some x => x.sex | none => 0
def grpQ (ps : List Per) (l : List Int) (p : Int) (i : Nat) : Bool := hasI l (sexD ps i) && chQ ps p i
def turnL (y : Bool) (l : List Nat) : List Nat := match y with | true => l.reverse | false => l
def ordG (ps : List Per) (x : Cus) (p : Int) (l : List Int) : List Nat := turnL x.young (eldL ps (grpQ ps l p) ps.length)
def ordL (ps : List Per) (x : Cus) (p : Int) : List Nat := (sexG x.prefer).flatMap (ordG ps x p)
/-! the model's way -/
/-! ### Who is alive, and the heirs below, those of the first places first -/
def aliveB (q : Per) (y : Int) : Bool := leI q.born y && (eqI q.died (-1) || ltI y q.died)
def alv (ps : List Per) (y : Int) (i : Nat) : Bool := match ps[i]? with | some q => aliveB q y | none => false
/-- All heirs below, as often as there are ways down. -/
def desL (ps : List Per) (x : Cus) (y : Int) : Nat → Nat → List Nat
  | 0, _ => []
  | d + 1, p => (ordL ps x (p : Int)).flatMap fun c => (match alv ps y c with | true => [c] | false => []) ++ (match alv ps y c || x.repr with | true => desL ps x y d c | false => [])
def desN (ps : List Per) (x : Cus) (y : Int) (p : Nat) : List Nat := desL ps x y ps.length p
def ownN (ps : List Per) (y : Int) (c : Nat) : List Nat := match alv ps y c with | true => [c] | false => []
def brN (ps : List Per) (x : Cus) (y : Int) (c : Nat) : List Nat := ownN ps y c ++ (match alv ps y c || x.repr with | true => desN ps x y c | false => [])
/-! ### One after the other, nobody twice -/
def stpO (I : Nat → Bool) (out : List Nat) (c : Nat) : List Nat := match I c || out.contains c with | true => out | false => out ++ [c]
def fldO (I : Nat → Bool) (out l : List Nat) : List Nat := l.foldl (stpO I) out
theorem fldO_app (I : Nat → Bool) (out l m : List Nat) : fldO I out (l ++ m) = fldO I (fldO I out l) m := by unfold fldO; rw [List.foldl_append]
theorem fldO_id (I : Nat → Bool) : ∀ (l out : List Nat), (∀ q ∈ l, I q = true ∨ q ∈ out) → fldO I out l = out
  | [], out, _ => rfl
  | c :: l, out, h => by
    have e : stpO I out c = out := by
      unfold stpO
      rcases h c (by simp) with e | e
      · simp [e]
      · simp [e]
    show fldO I (stpO I out c) l = out
    rw [e]
    exact fldO_id I l out fun q hq => h q (by simp [hq])
/-! ### The program's way: who is met is not met again -/
def clo (ps : List Per) (x : Cus) (y : Int) (I : Nat → Bool) (out : List Nat) (m : Nat) : Prop := ∀ q ∈ brN ps x y m, I q = true ∨ q ∈ out
structure Ok (ps : List Per) (I : Nat → Bool) (S : (Nat → Bool) × List Nat) : Prop where
  i : ∀ q, I q = true → S.1 q = true
  o : ∀ q ∈ S.2, S.1 q = true
  nd : S.2.Nodup
  lt : ∀ q ∈ S.2, q < ps.length
theorem nodup_lt : ∀ (n : Nat) (l : List Nat), l.Nodup → (∀ q ∈ l, q < n) → l.length ≤ n := fun n l h k => by
  have := pigeon n (l.map fun q : Nat => (q : Int)) (by
    unfold List.Nodup at h ⊢
    rw [List.pairwise_map]
    exact h.imp fun e e2 => e (by omega)) fun x hx => by
    obtain ⟨q, hq, rfl⟩ := List.mem_map.1 hx
    have := k q hq
    omega
  simpa using this
theorem Ok.len {ps : List Per} {I : Nat → Bool} {S : (Nat → Bool) × List Nat} (h : Ok ps I S) : S.2.length ≤ ps.length := nodup_lt _ _ h.nd h.lt
structure Went (ps : List Per) (x : Cus) (y : Int) (I : Nat → Bool) (p : Nat) (S : (Nat → Bool) × List Nat) (l : List Nat) (R : (Nat → Bool) × List Nat) : Prop where
  ok : Ok ps I R
  out : R.2 = fldO I S.2 l
  keep : ∀ m, S.1 m = true → R.1 m = true
  new : ∀ m, R.1 m = true → S.1 m = true ∨ p < m
  cl : ∀ m, R.1 m = true → p < m → clo ps x y I R.2 m
theorem Went.refl {ps : List Per} {x : Cus} {y : Int} {I : Nat → Bool} {p : Nat} {S : (Nat → Bool) × List Nat} {l : List Nat} (ok : Ok ps I S) (hc : ∀ m, S.1 m = true → p < m → clo ps x y I S.2 m) (hl : ∀ q ∈ l, I q = true ∨ q ∈ S.2) : Went ps x y I p S l S :=
  ⟨ok, (fldO_id I l S.2 hl).symm, fun _ h => h, fun _ h => .inl h, hc⟩
theorem Went.trans {ps : List Per} {x : Cus} {y : Int} {I : Nat → Bool} {p : Nat} {S R Q : (Nat → Bool) × List Nat} {l m : List Nat} (h : Went ps x y I p S l R) (k : Went ps x y I p R m Q) : Went ps x y I p S (l ++ m) Q :=
  ⟨k.ok, by rw [k.out, h.out, fldO_app], fun q hq => k.keep q (h.keep q hq), fun q hq => by
    rcases k.new q hq with e | e
    · exact h.new q e
    · exact .inr e, k.cl⟩
end Go.Proofs.Ytbiagkccgijdlaa

