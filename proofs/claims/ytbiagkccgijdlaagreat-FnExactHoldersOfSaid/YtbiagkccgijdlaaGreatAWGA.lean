/- The types of this seat's program, as the logic of values has them. -/
import Derived.Test.YtbiagkccgijdlaaGreatRows
import Derived.Test.YtbiagkccgijdlaaGreatALgN
import Derived.KernelRfl
import Derived.Laws.RangeAny
import Derived.Test.YtbiagkccgijdlaaGreatALgWS
namespace Go.Proofs.YtbiagkccgijdlaaGreat
open Go.Lg
def tyL : List (Nat × TyI) :=
  [(3, ⟨.int .i64, 1, 8⟩),
   (4, ⟨.bool, 1, 1⟩),
   (5, ⟨.int .u8, 1, 1⟩),
   (9, ⟨.str, 1, 16⟩),
   (20, ⟨.other, 1, 16⟩),
   (21, ⟨.int .i32, 1, 4⟩),
   (22, ⟨.slice 87, 1, 24⟩),
   (23, ⟨.slice 91, 1, 24⟩),
   (25, ⟨.struct [22, 23] [0, 1], 2, 48⟩),
   (27, ⟨.struct [3, 4, 4] [0, 1, 2], 3, 16⟩),
   (29, ⟨.slice 59, 1, 24⟩),
   (31, ⟨.slice 57, 1, 24⟩),
   (32, ⟨.slice 74, 1, 24⟩),
   (34, ⟨.struct [31, 32] [0, 1], 2, 48⟩),
   (36, ⟨.struct [3, 4, 4] [0, 1, 2], 3, 16⟩),
   (44, ⟨.struct [3, 3, 3, 3, 3, 3, 4, 4] [0, 1, 2, 3, 4, 5, 6, 7], 8, 56⟩),
   (45, ⟨.slice 64, 1, 24⟩),
   (47, ⟨.struct [3, 3, 3, 3, 3, 3, 4, 4] [0, 1, 2, 3, 4, 5, 6, 7], 8, 56⟩),
   (57, ⟨.struct [9, 3, 3, 3, 3, 3] [0, 1, 2, 3, 4, 5], 6, 56⟩),
   (59, ⟨.struct [3, 3] [0, 1], 2, 16⟩),
   (64, ⟨.slice 3, 1, 24⟩),
   (74, ⟨.struct [3, 3, 3, 3] [0, 1, 2, 3], 4, 32⟩),
   (76, ⟨.slice 64, 1, 24⟩),
   (78, ⟨.struct [47, 34, 76, 64, 64] [0, 8, 10, 11, 12], 13, 176⟩),
   (83, ⟨.struct [3, 3, 3] [0, 1, 2], 3, 24⟩),
   (87, ⟨.struct [9, 3, 3, 3, 3, 3] [0, 1, 2, 3, 4, 5], 6, 56⟩),
   (91, ⟨.struct [3, 3, 3, 3] [0, 1, 2, 3], 4, 32⟩),
   (93, ⟨.slice 9, 1, 24⟩),
   (95, ⟨.int .u64, 1, 8⟩),
   (96, ⟨.int .u64, 1, 8⟩),
   (99, ⟨.struct [34, 36, 3, 96, 64] [0, 2, 5, 6, 7], 8, 104⟩),
   (107, ⟨.slice 4, 1, 24⟩),
   (110, ⟨.slice 114, 1, 24⟩),
   (112, ⟨.other, 1, 16⟩),
   (114, ⟨.struct [9, 112] [0, 1], 2, 32⟩),
   (116, ⟨.other, 1, 8⟩),
   (118, ⟨.other, 1, 8⟩),
   (124, ⟨.slice 128, 1, 24⟩),
   (126, ⟨.other, 1, 8⟩),
   (128, ⟨.struct [3, 126] [0, 1], 2, 16⟩),
   (131, ⟨.other, 1, 8⟩),
   (134, ⟨.other, 1, 8⟩),
   (135, ⟨.slice 5, 1, 24⟩),
   (144, ⟨.other, 1, 8⟩),
   (146, ⟨.struct [144, 3, 3] [0, 1, 2], 3, 24⟩),
   (147, ⟨.other, 1, 8⟩),
   (149, ⟨.struct [147] [0], 1, 8⟩),
   (159, ⟨.other, 1, 8⟩),
   (166, ⟨.other, 1, 8⟩),
   (167, ⟨.int .u64, 1, 8⟩),
   (171, ⟨.other, 1, 8⟩),
   (173, ⟨.slice 188, 1, 24⟩),
   (178, ⟨.other, 1, 8⟩),
   (182, ⟨.int .u32, 1, 4⟩),
   (188, ⟨.struct [3, 3] [0, 1], 2, 16⟩),
   (193, ⟨.other, 1, 8⟩),
   (196, ⟨.other, 1, 8⟩),
   (203, ⟨.other, 1, 8⟩),
   (206, ⟨.int .i64, 1, 8⟩),
   (214, ⟨.int .u64, 1, 8⟩),
   (219, ⟨.other, 1, 8⟩)]
def zL : List (Nat × LV) :=
  [(3, (.int .i64 0)),
   (4, (.bool false)),
   (5, (.int .u8 0)),
   (9, (.str ⟨#[]⟩)),
   (20, .undef),
   (21, (.int .i32 0)),
   (22, .nil),
   (23, .nil),
   (25, (.st [.nil, .nil])),
   (27, (.st [(.int .i64 0), (.bool false), (.bool false)])),
   (29, .nil),
   (31, .nil),
   (32, .nil),
   (34, (.st [.nil, .nil])),
   (36, (.st [(.int .i64 0), (.bool false), (.bool false)])),
   (44, (.st [(.int .i64 0), (.int .i64 0), (.int .i64 0), (.int .i64 0), (.int .i64 0), (.int .i64 0), (.bool false), (.bool false)])),
   (45, .nil),
   (47, (.st [(.int .i64 0), (.int .i64 0), (.int .i64 0), (.int .i64 0), (.int .i64 0), (.int .i64 0), (.bool false), (.bool false)])),
   (57, (.st [(.str ⟨#[]⟩), (.int .i64 0), (.int .i64 0), (.int .i64 0), (.int .i64 0), (.int .i64 0)])),
   (59, (.st [(.int .i64 0), (.int .i64 0)])),
   (64, .nil),
   (74, (.st [(.int .i64 0), (.int .i64 0), (.int .i64 0), (.int .i64 0)])),
   (76, .nil),
   (78, (.st [(.st [(.int .i64 0), (.int .i64 0), (.int .i64 0), (.int .i64 0), (.int .i64 0), (.int .i64 0), (.bool false), (.bool false)]), (.st [.nil, .nil]), .nil, .nil, .nil])),
   (83, (.st [(.int .i64 0), (.int .i64 0), (.int .i64 0)])),
   (87, (.st [(.str ⟨#[]⟩), (.int .i64 0), (.int .i64 0), (.int .i64 0), (.int .i64 0), (.int .i64 0)])),
   (91, (.st [(.int .i64 0), (.int .i64 0), (.int .i64 0), (.int .i64 0)])),
   (93, .nil),
   (95, (.int .u64 0)),
   (96, (.int .u64 0)),
   (99, (.st [(.st [.nil, .nil]), (.st [(.int .i64 0), (.bool false), (.bool false)]), (.int .i64 0), (.int .u64 0), .nil])),
   (107, .nil),
   (110, .nil),
   (112, .undef),
   (114, (.st [(.str ⟨#[]⟩), .undef])),
   (116, .undef),
   (118, .undef),
   (124, .nil),
   (126, .undef),
   (128, (.st [(.int .i64 0), .undef])),
   (131, .undef),
   (134, .undef),
   (135, .nil),
   (144, .undef),
   (146, (.st [.undef, (.int .i64 0), (.int .i64 0)])),
   (147, .undef),
   (149, (.st [.undef])),
   (159, .undef),
   (166, .undef),
   (167, (.int .u64 0)),
   (171, .undef),
   (173, .nil),
   (178, .undef),
   (182, (.int .u32 0)),
   (188, (.st [(.int .i64 0), (.int .i64 0)])),
   (193, .undef),
   (196, .undef),
   (203, .undef),
   (206, (.int .i64 0)),
   (214, (.int .u64 0)),
   (219, .undef)]
def cL : List (Nat × List (Nat × Nat)) :=
  [(27, [(3, 0), (4, 1), (4, 2)]),
   (36, [(3, 0), (4, 1), (4, 2)]),
   (44, [(3, 0), (3, 1), (3, 2), (3, 3), (3, 4), (3, 5), (4, 6), (4, 7)]),
   (47, [(3, 0), (3, 1), (3, 2), (3, 3), (3, 4), (3, 5), (4, 6), (4, 7)]),
   (57, [(9, 0), (3, 1), (3, 2), (3, 3), (3, 4), (3, 5)]),
   (59, [(3, 0), (3, 1)]),
   (74, [(3, 0), (3, 1), (3, 2), (3, 3)]),
   (83, [(3, 0), (3, 1), (3, 2)]),
   (87, [(9, 0), (3, 1), (3, 2), (3, 3), (3, 4), (3, 5)]),
   (91, [(3, 0), (3, 1), (3, 2), (3, 3)]),
   (188, [(3, 0), (3, 1)])]
def mL : MTab :=
  [(146, "loop.example/g03221/impl.isValid", 206),
   (149, "loop.example/g03221/impl.isValid", 209)]
def bL : List (Nat × Nat) := []
def mpL : List (TypeId × MK × TypeId × TypeId) := []
noncomputable def env : Env := { P := Tryz.prog, T := lookT tyL, Z := lookT zL, C := lookT cL, M := mL, bd := bL, mp := mpL }
theorem tyL_ok : tyL.all (fun x => tyOKB Tryz.prog x.1 x.2) = true := by kernel_rfl
theorem zL_ok : zL.all (fun x => zOKB Tryz.prog x.1 x.2) = true := by kernel_rfl
theorem cL_ok : cL.all (fun x => cmpB Tryz.prog x.1 x.2) = true := by kernel_rfl
theorem mL_ok : mL.all (fun x => methB Tryz.prog x.1 x.2.1 x.2.2) = true := by kernel_rfl
theorem bL_ok : bL.all (fun x => bdOKB Tryz.prog x.1) = true := by kernel_rfl
theorem mpL_ok : mpL.all (mpB Tryz.prog) = true := by kernel_rfl
theorem laid_ok : laidOutB Tryz.prog = true := by kernel_rfl
/-- What a run may lean on of its world: nothing. -/
instance gi : GI := { low := 0, F := fun _ => True, keepF := fun _ _ _ => trivial }
theorem gi_of {W : World} (_h : W.ShapedOpen Tryz.prog) : GI.I W.heap.size W := ⟨Nat.zero_le _, trivial⟩
theorem env_ok : EnvOK env := ⟨TabOK_of tyL_ok, ZOK_of zL_ok, by kernel_rfl, COK_of cL_ok, MOK_of mL_ok, BdOK_of bL_ok, MpOK_of mpL_ok laid_ok⟩
end Go.Proofs.YtbiagkccgijdlaaGreat


namespace Go.Proofs.YtbiagkccgijdlaaGreat
open Go.Lg
set_option maxHeartbeats 400000
set_option linter.unusedVariables false
set_option linter.unusedSimpArgs false


structure Per where
  name : ByteArray
  sex : Int
  father : Int
  mother : Int
  born : Int
  died : Int
def Per.lv (p : Per) : LV := .st [.str p.name, .int .i64 p.sex, .int .i64 p.father, .int .i64 p.mother, .int .i64 p.born, .int .i64 p.died]
def Per.eq (p q : Per) : Bool := eqS p.name q.name && (eqI p.sex q.sex && (eqI p.father q.father && (eqI p.mother q.mother && (eqI p.born q.born && (eqI p.died q.died && true)))))
structure Uni where
  husband : Int
  wife : Int
  since : Int
  till : Int
def Uni.lv (p : Uni) : LV := .st [.int .i64 p.husband, .int .i64 p.wife, .int .i64 p.since, .int .i64 p.till]
def Uni.eq (p q : Uni) : Bool := eqI p.husband q.husband && (eqI p.wife q.wife && (eqI p.since q.since && (eqI p.till q.till && true)))

def eqList {α : Type} (eq : α → α → Bool) : List α → List α → Bool
  | [], [] => true
  | x :: xs, y :: ys => eq x y && eqList eq xs ys
  | _, _ => false

def eqTo {α : Type} (eq : α → α → Bool) (xs ys : List α) (k : Nat) : Prop := ∀ j x y, j < k → xs[j]? = some x → ys[j]? = some y → eq x y = true
theorem eqTo.succ {α : Type} {eq : α → α → Bool} {xs ys : List α} {k : Nat} (h : eqTo eq xs ys k) {x y : α} (hx : xs[k]? = some x) (hy : ys[k]? = some y) (e : eq x y = true) : eqTo eq xs ys (k + 1) := by
  intro j x' y' hj hx' hy'
  by_cases ej : j = k
  · subst ej
    rw [hx] at hx'
    rw [hy] at hy'
    cases hx'; cases hy'
    exact e
  · exact h j x' y' (by omega) hx' hy'
theorem eqTo.all {α : Type} {eq : α → α → Bool} : ∀ {xs ys : List α}, xs.length = ys.length → eqTo eq xs ys xs.length → eqList eq xs ys = true
  | [], [], _, _ => rfl
  | [], _ :: _, hl, _ => by simp at hl
  | _ :: _, [], hl, _ => by simp at hl
  | x :: xs, y :: ys, hl, h => by
    simp only [eqList, Bool.and_eq_true]
    refine ⟨h 0 x y (by simp) rfl rfl, eqTo.all (by simpa using hl) fun j x' y' hj hx hy => h (j + 1) x' y' (by simpa using hj) (by simpa using hx) (by simpa using hy)⟩
theorem eqList_no {α : Type} {eq : α → α → Bool} : ∀ {xs ys : List α} {k : Nat} {x y : α}, xs[k]? = some x → ys[k]? = some y → eq x y = false → eqList eq xs ys = false
  | [], _, k, _, _, h, _, _ => by simp at h
  | _ :: _, [], k, _, _, _, h, _ => by simp at h
  | a :: xs, b :: ys, 0, x, y, h1, h2, h3 => by simp at h1 h2; subst h1; subst h2; simp [eqList, h3]
  | a :: xs, b :: ys, k + 1, x, y, h1, h2, h3 => by
    simp only [eqList]
    rw [eqList_no (k := k) (by simpa using h1) (by simpa using h2) h3]
    simp
theorem eqList_len {α : Type} {eq : α → α → Bool} : ∀ {xs ys : List α}, xs.length ≠ ys.length → eqList eq xs ys = false
  | [], [], h => absurd rfl h
  | [], _ :: _, _ => rfl
  | _ :: _, [], _ => rfl
  | x :: xs, y :: ys, h => by simp only [eqList]; rw [eqList_len (by simpa using h)]; simp

def famLV (ps : List Per) (us : List Uni) : LV := .st [.sl (ps.map Per.lv), .sl (us.map Uni.lv)]

theorem eqI_len {α : Type} {xs ys : List α} {f : α → LV} (h : eqI ((xs.map f).length : Int) ((ys.map f).length : Int) = true) : xs.length = ys.length := by
  rw [eqI_t] at h; simp at h; omega
theorem eqI_nolen {α : Type} {xs ys : List α} {f : α → LV} (h : eqI ((xs.map f).length : Int) ((ys.map f).length : Int) = false) : xs.length ≠ ys.length := by
  rw [eqI_f] at h; simp at h; omega

end Go.Proofs.YtbiagkccgijdlaaGreat

namespace Go.Proofs.YtbiagkccgijdlaaGreat
open Go.Lg
set_option maxHeartbeats 400000
set_option maxRecDepth 10000
set_option linter.unusedVariables false
set_option linter.unusedSimpArgs false

theorem toPerson_spec (p : Per) : FSpec env.P 50 [p.lv] p.lv := by
  refine FSpec_of_code env_ok (fn := Tryz.f50) Tryz.func50 rfl Tryz.call50 _ _ ?_
  ((repeat ((conv => whnf); first | refine brT ?_ | refine brF ?_)); conv => whnf)
  refine ⟨_, rfl, rfl, ?_⟩
  repeat ((conv => whnf); refine ⟨rfl, ?_⟩)
  exact List.nodup_nil
theorem toUnion_spec (p : Uni) : FSpec env.P 51 [p.lv] p.lv := by
  refine FSpec_of_code env_ok (fn := Tryz.f51) Tryz.func51 rfl Tryz.call51 _ _ ?_
  ((repeat ((conv => whnf); first | refine brT ?_ | refine brF ?_)); conv => whnf)
  refine ⟨_, rfl, rfl, ?_⟩
  repeat ((conv => whnf); refine ⟨rfl, ?_⟩)
  exact List.nodup_nil

def szPer (n : Int) (p : Per) : Int := match ltI (IntKind.i64.wrap (n - (p.name.size : Int))) 0 with | true => -1 | false => IntKind.i64.wrap (n - (p.name.size : Int))
theorem szPerson_spec (p : Per) (n : Int) : FSpec env.P 47 [p.lv, .int .i64 n] (.int .i64 (szPer n p)) := by
  refine FSpec_of_code env_ok (fn := Tryz.f47) Tryz.func47 rfl Tryz.call47 _ _ ?_
  ((repeat ((conv => whnf); first | refine brT ?_ | refine brF ?_)); conv => whnf)
  intro hn
  ((repeat ((conv => whnf); first | refine brT ?_ | refine brF ?_)); conv => whnf)
  refine ⟨fun h => ?_, fun h => ?_⟩ <;> rw [h] <;> ((repeat ((conv => whnf); first | refine brT ?_ | refine brF ?_)); conv => whnf) <;> refine ⟨rfl, ?_, List.nodup_nil⟩ <;> simp only [szPer, h]

def szUnis (n : Int) (us : List Uni) : Int := match ltI (IntKind.i64.wrap (n - (us.length : Int))) 0 with | true => -1 | false => IntKind.i64.wrap (n - (us.length : Int))
theorem szUnionS_spec (us : List Uni) (n : Int) : FSpec env.P 22 [.sl (us.map Uni.lv), .int .i64 n] (.int .i64 (szUnis n us)) := by
  refine FSpec_of_code env_ok (fn := Tryz.f22) Tryz.func22 rfl Tryz.call22 _ _ ?_
  ((repeat ((conv => whnf); first | refine brT ?_ | refine brF ?_)); conv => whnf)
  intro hn
  ((repeat ((conv => whnf); first | refine brT ?_ | refine brF ?_)); conv => whnf)
  have e : ((us.map Uni.lv).length : Int) = (us.length : Int) := by simp
  rw [e]
  refine ⟨fun h => ?_, fun h => ?_⟩ <;> rw [h] <;> ((repeat ((conv => whnf); first | refine brT ?_ | refine brF ?_)); conv => whnf) <;> refine ⟨rfl, ?_, List.nodup_nil⟩ <;> simp only [szUnis, h] <;> simp

def szFold : Int → List Per → Int
  | n, [] => n
  | n, p :: ps => match ltI (szPer n p) 0 with | true => -1 | false => szFold (szPer n p) ps
def szPers (n : Int) (ps : List Per) : Int := match ltI (IntKind.i64.wrap (n - (ps.length : Int))) 0 with | true => -1 | false => szFold (IntKind.i64.wrap (n - (ps.length : Int))) ps

theorem szPersonS_spec (ps : List Per) (n : Int) : FSpec env.P 21 [.sl (ps.map Per.lv), .int .i64 n] (.int .i64 (szPers n ps)) := by
  refine FSpec_of_code env_ok (fn := Tryz.f21) Tryz.func21 rfl Tryz.call21 _ _ ?_
  ((repeat ((conv => whnf); first | refine brT ?_ | refine brF ?_)); conv => whnf)
  intro hn
  ((repeat ((conv => whnf); first | refine brT ?_ | refine brF ?_)); conv => whnf)
  have e : ((ps.map Per.lv).length : Int) = (ps.length : Int) := by simp
  have hp' : ps.length ≤ Go.maxLen := by simpa using hn
  rw [e]
  refine ⟨fun h => ?_, fun h => ?_⟩ <;> rw [h]
  · ((repeat ((conv => whnf); first | refine brT ?_ | refine brF ?_)); conv => whnf)
    refine ⟨rfl, ?_, List.nodup_nil⟩
    simp only [szPers, h]
  ((repeat ((conv => whnf); first | refine brT ?_ | refine brF ?_)); conv => whnf)
  refine loop_rule (α := Nat × Int) (fun x => [(1, .int .i64 x.2), (5, .int .i64 (x.1 : Int))]) (fun _ => []) (fun x => ps.length - x.1)
    (fun x => x.1 ≤ ps.length ∧ szFold x.2 (ps.drop x.1) = szPers n ps) (0, IntKind.i64.wrap (n - (ps.length : Int))) ⟨Nat.zero_le _, by simp only [szPers, h, List.drop_zero]⟩ ?_ ?_
  · refine ⟨?_, trivial, rfl, rfl⟩
    repeat ((conv => whnf); refine ⟨rfl, ?_⟩)
    trivial
  rintro ⟨k, c⟩ ⟨hk, hc⟩
  ((repeat ((conv => whnf); first | refine brT ?_ | refine brF ?_)); conv => whnf)
  intro _
  ((repeat ((conv => whnf); first | refine brT ?_ | refine brF ?_)); conv => whnf)
  rw [e]
  refine ⟨fun h1 => ?_, fun h1 => ?_⟩ <;> rw [h1]
  · have hlt : k < ps.length := by rw [ltI_t] at h1; simp at h1; omega
    have hd : ps.drop k = ps[k] :: ps.drop (k + 1) := List.drop_eq_getElem_cons hlt
    simp only [hd, szFold] at hc
    ((repeat ((conv => whnf); first | refine brT ?_ | refine brF ?_)); conv => whnf)
    refine ⟨k, ps[k].lv, rfl, by simp [hlt], rfl, ?_⟩
    ((repeat ((conv => whnf); first | refine brT ?_ | refine brF ?_)); conv => whnf)
    refine ⟨_, szPerson_spec ps[k] c, ?_⟩
    ((repeat ((conv => whnf); first | refine brT ?_ | refine brF ?_)); conv => whnf)
    refine ⟨fun h2 => ?_, fun h2 => ?_⟩ <;> rw [h2]
    · ((repeat ((conv => whnf); first | refine brT ?_ | refine brF ?_)); conv => whnf)
      refine ⟨rfl, ?_, List.nodup_nil⟩
      rw [← hc, h2]
    · rw [h2] at hc
      ((repeat ((conv => whnf); first | refine brT ?_ | refine brF ?_)); conv => whnf)
      refine round_end (k + 1, szPer c ps[k]) ⟨hlt, hc⟩ (by simp only; omega) ⟨?_, trivial, rfl, rfl⟩
      have e := step_i hlt hp'
      repeat ((conv => whnf); first | refine ⟨e, ?_⟩ | refine ⟨rfl, ?_⟩)
      trivial
  · have h3 : ps.length ≤ k := by rw [ltI_f] at h1; simp at h1; omega
    ((repeat ((conv => whnf); first | refine brT ?_ | refine brF ?_)); conv => whnf)
    refine ⟨rfl, ?_, List.nodup_nil⟩
    rw [← hc, List.drop_eq_nil_of_le h3]
    rfl

def szFam (n : Int) (ps : List Per) (us : List Uni) : Int := match ltI (szPers n ps) 0 with
  | true => -1
  | false => match ltI (szUnis (szPers n ps) us) 0 with | true => -1 | false => szUnis (szPers n ps) us
theorem szFamily_spec (ps : List Per) (us : List Uni) (n : Int) : FSpec env.P 5 [famLV ps us, .int .i64 n] (.int .i64 (szFam n ps us)) := by
  refine FSpec_of_code env_ok (fn := Tryz.f5) Tryz.func5 rfl Tryz.call5 _ _ ?_
  ((repeat ((conv => whnf); first | refine brT ?_ | refine brF ?_)); conv => whnf)
  refine ⟨_, szPersonS_spec ps n, ?_⟩
  ((repeat ((conv => whnf); first | refine brT ?_ | refine brF ?_)); conv => whnf)
  refine ⟨fun h => ?_, fun h => ?_⟩ <;> rw [h]
  · ((repeat ((conv => whnf); first | refine brT ?_ | refine brF ?_)); conv => whnf)
    refine ⟨rfl, ?_, List.nodup_nil⟩
    simp only [szFam, h]
  ((repeat ((conv => whnf); first | refine brT ?_ | refine brF ?_)); conv => whnf)
  refine ⟨_, szUnionS_spec us _, ?_⟩
  ((repeat ((conv => whnf); first | refine brT ?_ | refine brF ?_)); conv => whnf)
  refine ⟨fun h2 => ?_, fun h2 => ?_⟩ <;> rw [h2] <;> ((repeat ((conv => whnf); first | refine brT ?_ | refine brF ?_)); conv => whnf) <;> refine ⟨rfl, ?_, List.nodup_nil⟩ <;> simp only [szFam, h, h2]

theorem eqPerson_spec (p q : Per) : FSpec env.P 57 [p.lv, q.lv] (.bool (p.eq q)) := by
  refine FSpec_of_code env_ok (fn := Tryz.f57) Tryz.func57 rfl Tryz.call57 _ _ ?_
  ((repeat ((conv => whnf); first | refine brT ?_ | refine brF ?_)); conv => whnf)
  refine ⟨fun h => ?_, fun h => ?_⟩ <;> rw [h]
  · ((repeat ((conv => whnf); first | refine brT ?_ | refine brF ?_)); conv => whnf); rw [notB_t] at h; refine fin ?_; simp [Per.eq, h]
  rw [notB_f] at h
  ((repeat ((conv => whnf); first | refine brT ?_ | refine brF ?_)); conv => whnf)
  refine ⟨fun h1 => ?_, fun h1 => ?_⟩ <;> rw [h1]
  · ((repeat ((conv => whnf); first | refine brT ?_ | refine brF ?_)); conv => whnf); rw [notB_t] at h1; refine fin ?_; simp [Per.eq, h1]
  rw [notB_f] at h1
  ((repeat ((conv => whnf); first | refine brT ?_ | refine brF ?_)); conv => whnf)
  refine ⟨fun h2 => ?_, fun h2 => ?_⟩ <;> rw [h2]
  · ((repeat ((conv => whnf); first | refine brT ?_ | refine brF ?_)); conv => whnf); rw [notB_t] at h2; refine fin ?_; simp [Per.eq, h2]
  rw [notB_f] at h2
  ((repeat ((conv => whnf); first | refine brT ?_ | refine brF ?_)); conv => whnf)
  refine ⟨fun h3 => ?_, fun h3 => ?_⟩ <;> rw [h3]
  · ((repeat ((conv => whnf); first | refine brT ?_ | refine brF ?_)); conv => whnf); rw [notB_t] at h3; refine fin ?_; simp [Per.eq, h3]
  rw [notB_f] at h3
  ((repeat ((conv => whnf); first | refine brT ?_ | refine brF ?_)); conv => whnf)
  refine ⟨fun h4 => ?_, fun h4 => ?_⟩ <;> rw [h4]
  · ((repeat ((conv => whnf); first | refine brT ?_ | refine brF ?_)); conv => whnf); rw [notB_t] at h4; refine fin ?_; simp [Per.eq, h4]
  rw [notB_f] at h4
  ((repeat ((conv => whnf); first | refine brT ?_ | refine brF ?_)); conv => whnf)
  refine ⟨fun h5 => ?_, fun h5 => ?_⟩ <;> rw [h5]
  · ((repeat ((conv => whnf); first | refine brT ?_ | refine brF ?_)); conv => whnf); rw [notB_t] at h5; refine fin ?_; simp [Per.eq, h5]
  rw [notB_f] at h5
  ((repeat ((conv => whnf); first | refine brT ?_ | refine brF ?_)); conv => whnf)
  refine fin ?_
  simp [Per.eq, h, h1, h2, h3, h4, h5]
theorem eqUnion_spec (p q : Uni) : FSpec env.P 58 [p.lv, q.lv] (.bool (p.eq q)) := by
  refine FSpec_of_code env_ok (fn := Tryz.f58) Tryz.func58 rfl Tryz.call58 _ _ ?_
  ((repeat ((conv => whnf); first | refine brT ?_ | refine brF ?_)); conv => whnf)
  refine ⟨fun h => ?_, fun h => ?_⟩ <;> rw [h]
  · ((repeat ((conv => whnf); first | refine brT ?_ | refine brF ?_)); conv => whnf); rw [notB_t] at h; refine fin ?_; simp [Uni.eq, h]
  rw [notB_f] at h
  ((repeat ((conv => whnf); first | refine brT ?_ | refine brF ?_)); conv => whnf)
  refine ⟨fun h1 => ?_, fun h1 => ?_⟩ <;> rw [h1]
  · ((repeat ((conv => whnf); first | refine brT ?_ | refine brF ?_)); conv => whnf); rw [notB_t] at h1; refine fin ?_; simp [Uni.eq, h1]
  rw [notB_f] at h1
  ((repeat ((conv => whnf); first | refine brT ?_ | refine brF ?_)); conv => whnf)
  refine ⟨fun h2 => ?_, fun h2 => ?_⟩ <;> rw [h2]
  · ((repeat ((conv => whnf); first | refine brT ?_ | refine brF ?_)); conv => whnf); rw [notB_t] at h2; refine fin ?_; simp [Uni.eq, h2]
  rw [notB_f] at h2
  ((repeat ((conv => whnf); first | refine brT ?_ | refine brF ?_)); conv => whnf)
  refine ⟨fun h3 => ?_, fun h3 => ?_⟩ <;> rw [h3]
  · ((repeat ((conv => whnf); first | refine brT ?_ | refine brF ?_)); conv => whnf); rw [notB_t] at h3; refine fin ?_; simp [Uni.eq, h3]
  rw [notB_f] at h3
  ((repeat ((conv => whnf); first | refine brT ?_ | refine brF ?_)); conv => whnf)
  refine fin ?_
  simp [Uni.eq, h, h1, h2, h3]
end Go.Proofs.YtbiagkccgijdlaaGreat


namespace Go.Proofs.YtbiagkccgijdlaaGreat
open Go.Lg
set_option maxHeartbeats 400000
set_option maxRecDepth 10000
set_option linter.unusedVariables false
set_option linter.unusedSimpArgs false

theorem eqPersonS_spec (ps qs : List Per) : FSpec env.P 32 [.sl (ps.map Per.lv), .sl (qs.map Per.lv)] (.bool (eqList Per.eq ps qs)) := by
  refine FSpec_of_code env_ok (fn := Tryz.f32) Tryz.func32 rfl Tryz.call32 _ _ ?_
  ((repeat ((conv => whnf); first | refine brT ?_ | refine brF ?_)); conv => whnf)
  intro hp
  ((repeat ((conv => whnf); first | refine brT ?_ | refine brF ?_)); conv => whnf)
  intro hq
  ((repeat ((conv => whnf); first | refine brT ?_ | refine brF ?_)); conv => whnf)
  refine ⟨fun h => ?_, fun h => ?_⟩ <;> rw [h]
  · ((repeat ((conv => whnf); first | refine brT ?_ | refine brF ?_)); conv => whnf)
    refine fin ?_
    rw [notB_t] at h
    rw [eqList_len (eqI_nolen h)]
  rw [notB_f] at h
  have hl := eqI_len h
  have hp' : ps.length ≤ Go.maxLen := by simpa using hp
  ((repeat ((conv => whnf); first | refine brT ?_ | refine brF ?_)); conv => whnf)
  refine loop_rule (α := Nat) (fun k => [(5, .int .i64 (k : Int))]) (fun _ => []) (fun k => ps.length - k) (fun k => k ≤ ps.length ∧ eqTo Per.eq ps qs k) 0 ⟨Nat.zero_le _, fun _ _ _ h => absurd h (Nat.not_lt_zero _)⟩ ?_ ?_
  · refine ⟨?_, trivial, rfl, rfl⟩
    repeat ((conv => whnf); refine ⟨rfl, ?_⟩)
    trivial
  rintro k ⟨hk, he⟩
  ((repeat ((conv => whnf); first | refine brT ?_ | refine brF ?_)); conv => whnf)
  intro _
  ((repeat ((conv => whnf); first | refine brT ?_ | refine brF ?_)); conv => whnf)
  refine ⟨fun h1 => ?_, fun h1 => ?_⟩ <;> rw [h1]
  · have hlt : k < ps.length := by rw [ltI_t] at h1; simp at h1; omega
    have hlt2 : k < qs.length := by omega
    ((repeat ((conv => whnf); first | refine brT ?_ | refine brF ?_)); conv => whnf)
    refine ⟨true, by kernel_rfl, ?_⟩
    ((repeat ((conv => whnf); first | refine brT ?_ | refine brF ?_)); conv => whnf)
    refine ⟨k, ps[k].lv, rfl, by simp [hlt], rfl, ?_⟩
    ((repeat ((conv => whnf); first | refine brT ?_ | refine brF ?_)); conv => whnf)
    refine ⟨k, qs[k].lv, rfl, by simp [hlt2], rfl, ?_⟩
    ((repeat ((conv => whnf); first | refine brT ?_ | refine brF ?_)); conv => whnf)
    refine ⟨_, eqPerson_spec ps[k] qs[k], ?_⟩
    ((repeat ((conv => whnf); first | refine brT ?_ | refine brF ?_)); conv => whnf)
    refine ⟨fun h3 => ?_, fun h3 => ?_⟩ <;> rw [h3]
    · rw [notB_t] at h3
      ((repeat ((conv => whnf); first | refine brT ?_ | refine brF ?_)); conv => whnf)
      refine fin ?_
      rw [eqList_no (k := k) (x := ps[k]) (y := qs[k]) (by simp [hlt]) (by simp [hlt2]) h3]
    · rw [notB_f] at h3
      ((repeat ((conv => whnf); first | refine brT ?_ | refine brF ?_)); conv => whnf)
      refine round_end (k + 1) ⟨hlt, he.succ (x := ps[k]) (y := qs[k]) (by simp [hlt]) (by simp [hlt2]) h3⟩ (by omega) ⟨?_, trivial, rfl, rfl⟩
      have e := step_i hlt hp'
      repeat ((conv => whnf); first | refine ⟨e, ?_⟩ | refine ⟨rfl, ?_⟩)
      trivial
  · have h3 : ps.length ≤ k := by rw [ltI_f] at h1; simp at h1; omega
    have h4 : k = ps.length := by omega
    subst h4
    ((repeat ((conv => whnf); first | refine brT ?_ | refine brF ?_)); conv => whnf)
    refine fin ?_
    rw [eqTo.all hl he]

theorem eqUnionS_spec (ps qs : List Uni) : FSpec env.P 33 [.sl (ps.map Uni.lv), .sl (qs.map Uni.lv)] (.bool (eqList Uni.eq ps qs)) := by
  refine FSpec_of_code env_ok (fn := Tryz.f33) Tryz.func33 rfl Tryz.call33 _ _ ?_
  ((repeat ((conv => whnf); first | refine brT ?_ | refine brF ?_)); conv => whnf)
  intro hp
  ((repeat ((conv => whnf); first | refine brT ?_ | refine brF ?_)); conv => whnf)
  intro hq
  ((repeat ((conv => whnf); first | refine brT ?_ | refine brF ?_)); conv => whnf)
  refine ⟨fun h => ?_, fun h => ?_⟩ <;> rw [h]
  · ((repeat ((conv => whnf); first | refine brT ?_ | refine brF ?_)); conv => whnf)
    refine fin ?_
    rw [notB_t] at h
    rw [eqList_len (eqI_nolen h)]
  rw [notB_f] at h
  have hl := eqI_len h
  have hp' : ps.length ≤ Go.maxLen := by simpa using hp
  ((repeat ((conv => whnf); first | refine brT ?_ | refine brF ?_)); conv => whnf)
  refine loop_rule (α := Nat) (fun k => [(5, .int .i64 (k : Int))]) (fun _ => []) (fun k => ps.length - k) (fun k => k ≤ ps.length ∧ eqTo Uni.eq ps qs k) 0 ⟨Nat.zero_le _, fun _ _ _ h => absurd h (Nat.not_lt_zero _)⟩ ?_ ?_
  · refine ⟨?_, trivial, rfl, rfl⟩
    repeat ((conv => whnf); refine ⟨rfl, ?_⟩)
    trivial
  rintro k ⟨hk, he⟩
  ((repeat ((conv => whnf); first | refine brT ?_ | refine brF ?_)); conv => whnf)
  intro _
  ((repeat ((conv => whnf); first | refine brT ?_ | refine brF ?_)); conv => whnf)
  refine ⟨fun h1 => ?_, fun h1 => ?_⟩ <;> rw [h1]
  · have hlt : k < ps.length := by rw [ltI_t] at h1; simp at h1; omega
    have hlt2 : k < qs.length := by omega
    ((repeat ((conv => whnf); first | refine brT ?_ | refine brF ?_)); conv => whnf)
    refine ⟨true, by kernel_rfl, ?_⟩
    ((repeat ((conv => whnf); first | refine brT ?_ | refine brF ?_)); conv => whnf)
    refine ⟨k, ps[k].lv, rfl, by simp [hlt], rfl, ?_⟩
    ((repeat ((conv => whnf); first | refine brT ?_ | refine brF ?_)); conv => whnf)
    refine ⟨k, qs[k].lv, rfl, by simp [hlt2], rfl, ?_⟩
    ((repeat ((conv => whnf); first | refine brT ?_ | refine brF ?_)); conv => whnf)
    refine ⟨_, eqUnion_spec ps[k] qs[k], ?_⟩
    ((repeat ((conv => whnf); first | refine brT ?_ | refine brF ?_)); conv => whnf)
    refine ⟨fun h3 => ?_, fun h3 => ?_⟩ <;> rw [h3]
    · rw [notB_t] at h3
      ((repeat ((conv => whnf); first | refine brT ?_ | refine brF ?_)); conv => whnf)
      refine fin ?_
      rw [eqList_no (k := k) (x := ps[k]) (y := qs[k]) (by simp [hlt]) (by simp [hlt2]) h3]
    · rw [notB_f] at h3
      ((repeat ((conv => whnf); first | refine brT ?_ | refine brF ?_)); conv => whnf)
      refine round_end (k + 1) ⟨hlt, he.succ (x := ps[k]) (y := qs[k]) (by simp [hlt]) (by simp [hlt2]) h3⟩ (by omega) ⟨?_, trivial, rfl, rfl⟩
      have e := step_i hlt hp'
      repeat ((conv => whnf); first | refine ⟨e, ?_⟩ | refine ⟨rfl, ?_⟩)
      trivial
  · have h3 : ps.length ≤ k := by rw [ltI_f] at h1; simp at h1; omega
    have h4 : k = ps.length := by omega
    subst h4
    ((repeat ((conv => whnf); first | refine brT ?_ | refine brF ?_)); conv => whnf)
    refine fin ?_
    rw [eqTo.all hl he]

def eqFam (ps qs : List Per) (us vs : List Uni) : Bool := eqList Per.eq ps qs && eqList Uni.eq us vs
theorem eqFamily_spec (ps qs : List Per) (us vs : List Uni) : FSpec env.P 11 [famLV ps us, famLV qs vs] (.bool (eqFam ps qs us vs)) := by
  refine FSpec_of_code env_ok (fn := Tryz.f11) Tryz.func11 rfl Tryz.call11 _ _ ?_
  ((repeat ((conv => whnf); first | refine brT ?_ | refine brF ?_)); conv => whnf)
  refine ⟨_, eqPersonS_spec ps qs, ?_⟩
  ((repeat ((conv => whnf); first | refine brT ?_ | refine brF ?_)); conv => whnf)
  refine ⟨fun h => ?_, fun h => ?_⟩ <;> rw [h]
  · ((repeat ((conv => whnf); first | refine brT ?_ | refine brF ?_)); conv => whnf); rw [notB_t] at h; refine fin ?_; simp [eqFam, h]
  rw [notB_f] at h
  ((repeat ((conv => whnf); first | refine brT ?_ | refine brF ?_)); conv => whnf)
  refine ⟨_, eqUnionS_spec us vs, ?_⟩
  ((repeat ((conv => whnf); first | refine brT ?_ | refine brF ?_)); conv => whnf)
  refine ⟨fun h1 => ?_, fun h1 => ?_⟩ <;> rw [h1]
  · ((repeat ((conv => whnf); first | refine brT ?_ | refine brF ?_)); conv => whnf); rw [notB_t] at h1; refine fin ?_; simp [eqFam, h1]
  rw [notB_f] at h1
  ((repeat ((conv => whnf); first | refine brT ?_ | refine brF ?_)); conv => whnf)
  refine fin ?_
  simp [eqFam, h, h1]

/-- A row that is filled from its head. -/
def fillLV {α : Type} (lv : α → LV) (z : LV) (ps : List α) (k : Nat) : List LV := (ps.take k).map lv ++ List.replicate (ps.length - k) z
theorem fill_len {α : Type} {lv : α → LV} {z : LV} {ps : List α} {k : Nat} (h : k ≤ ps.length) : (fillLV lv z ps k).length = ps.length := by simp [fillLV]; omega
theorem fill_get {α : Type} {lv : α → LV} {z : LV} {ps : List α} {k : Nat} (h : k < ps.length) : (fillLV lv z ps k)[k]? = some z := by
  unfold fillLV
  rw [List.getElem?_append_right (by simp; omega)]
  have : k - ((ps.take k).map lv).length = 0 := by simp; omega
  rw [this]
  have h2 : ps.length - k = (ps.length - k - 1) + 1 := by omega
  rw [h2, List.replicate_succ]
  rfl
theorem fill_set {α : Type} {lv : α → LV} {z : LV} {ps : List α} {k : Nat} (h : k < ps.length) : (fillLV lv z ps k).set k (lv ps[k]) = fillLV lv z ps (k + 1) := by
  apply List.ext_getElem?
  intro j
  unfold fillLV
  rw [List.getElem?_set]
  by_cases e : k = j
  · subst e
    have hl : k < ((ps.take k).map lv ++ List.replicate (ps.length - k) z).length := by simp; omega
    rw [if_pos rfl, if_pos hl, List.getElem?_append_left (by simp; omega)]
    simp [h]
  · rw [if_neg e]
    by_cases hj : j < k
    · rw [List.getElem?_append_left (by simp; omega), List.getElem?_append_left (by simp; omega)]
      simp [hj, show j < k + 1 by omega]
    · rw [List.getElem?_append_right (by simp; omega), List.getElem?_append_right (by simp; omega)]
      have e1 : ((ps.take k).map lv).length = k := by simp; omega
      have e2 : ((ps.take (k + 1)).map lv).length = k + 1 := by simp; omega
      rw [e1, e2]
      by_cases hj2 : j < ps.length
      · rw [List.getElem?_replicate, List.getElem?_replicate, if_pos (by omega), if_pos (by omega)]
      · rw [List.getElem?_replicate, List.getElem?_replicate, if_neg (by omega), if_neg (by omega)]
theorem fill_all {α : Type} {lv : α → LV} {z : LV} {ps : List α} : fillLV lv z ps ps.length = ps.map lv := by simp [fillLV]

def zPer : LV := .st [.str ⟨#[]⟩, .int .i64 0, .int .i64 0, .int .i64 0, .int .i64 0, .int .i64 0]
theorem toPersonS_spec (ps : List Per) (hb : 56 * ps.length ≤ 281474976710656) : FSpec env.P 26 [.sl (ps.map Per.lv)] (.own 57 6 (ps.map Per.lv)) := by
  refine FSpec_of_code env_ok (fn := Tryz.f26) Tryz.func26 rfl Tryz.call26 _ _ ?_
  ((repeat ((conv => whnf); first | refine brT ?_ | refine brF ?_)); conv => whnf)
  intro hp
  have hp' : ps.length ≤ Go.maxLen := by simpa using hp
  ((repeat ((conv => whnf); first | refine brT ?_ | refine brF ?_)); conv => whnf)
  refine ⟨ps.length, by simp, by simp, hb, hp', rfl, by decide, ?_⟩
  ((repeat ((conv => whnf); first | refine brT ?_ | refine brF ?_)); conv => whnf)
  refine loop_rule (α := Nat) (fun k => [(4, .int .i64 (k : Int))]) (fun k => [.arr 57 6 (fillLV Per.lv zPer ps k)]) (fun k => ps.length - k) (fun k => k ≤ ps.length) 0 (Nat.zero_le _) ?_ ?_
  · refine ⟨?_, ⟨by simp [zPer, fillLV], trivial⟩, rfl, rfl⟩
    repeat ((conv => whnf); refine ⟨rfl, ?_⟩)
    trivial
  rintro k hk
  ((repeat ((conv => whnf); first | refine brT ?_ | refine brF ?_)); conv => whnf)
  intro _
  ((repeat ((conv => whnf); first | refine brT ?_ | refine brF ?_)); conv => whnf)
  refine ⟨fun h1 => ?_, fun h1 => ?_⟩ <;> rw [h1]
  · have hlt : k < ps.length := by rw [ltI_t] at h1; simp at h1; omega
    ((repeat ((conv => whnf); first | refine brT ?_ | refine brF ?_)); conv => whnf)
    refine ⟨k, ps[k].lv, rfl, by simp [hlt], rfl, ?_⟩
    ((repeat ((conv => whnf); first | refine brT ?_ | refine brF ?_)); conv => whnf)
    refine ⟨_, toPerson_spec ps[k], ?_⟩
    ((repeat ((conv => whnf); first | refine brT ?_ | refine brF ?_)); conv => whnf)
    refine ⟨(fill_len hk).symm, rfl, k, rfl, by rw [fill_len hk]; exact hlt, ?_⟩
    ((repeat ((conv => whnf); first | refine brT ?_ | refine brF ?_)); conv => whnf)
    refine ⟨(fill_len hk).symm, k, [], zPer, rfl, by simp [getP, fill_get hlt], rfl, rfl, rfl, _, rfl, ?_⟩
    ((repeat ((conv => whnf); first | refine brT ?_ | refine brF ?_)); conv => whnf)
    refine round_end (k + 1) hlt (by omega) ⟨?_, ⟨?_, trivial⟩, rfl, rfl⟩
    · have e := step_i hlt hp'
      repeat ((conv => whnf); first | refine ⟨e, ?_⟩ | refine ⟨rfl, ?_⟩)
      trivial
    · have e3 : (match (fillLV Per.lv zPer ps k)[k]? with | some z => (fillLV Per.lv zPer ps k).set k (setP z [] ps[k].lv) | none => fillLV Per.lv zPer ps k) = fillLV Per.lv zPer ps (k + 1) := by
        rw [fill_get hlt]
        simp only [zPer, setP]
        exact fill_set hlt
      exact congrArg (Blk.arr 57 6) e3
  · have h3 : ps.length ≤ k := by rw [ltI_f] at h1; simp at h1; omega
    have h4 : k = ps.length := by omega
    subst h4
    ((repeat ((conv => whnf); first | refine brT ?_ | refine brF ?_)); conv => whnf)
    exact ⟨(fill_len (Nat.le_refl _)).symm, rfl, rfl, fill_all, by simp⟩

def zUni : LV := .st [.int .i64 0, .int .i64 0, .int .i64 0, .int .i64 0]
theorem toUnionS_spec (ps : List Uni) (hb : 32 * ps.length ≤ 281474976710656) : FSpec env.P 27 [.sl (ps.map Uni.lv)] (.own 74 4 (ps.map Uni.lv)) := by
  refine FSpec_of_code env_ok (fn := Tryz.f27) Tryz.func27 rfl Tryz.call27 _ _ ?_
  ((repeat ((conv => whnf); first | refine brT ?_ | refine brF ?_)); conv => whnf)
  intro hp
  have hp' : ps.length ≤ Go.maxLen := by simpa using hp
  ((repeat ((conv => whnf); first | refine brT ?_ | refine brF ?_)); conv => whnf)
  refine ⟨ps.length, by simp, by simp, hb, hp', rfl, by decide, ?_⟩
  ((repeat ((conv => whnf); first | refine brT ?_ | refine brF ?_)); conv => whnf)
  refine loop_rule (α := Nat) (fun k => [(4, .int .i64 (k : Int))]) (fun k => [.arr 74 4 (fillLV Uni.lv zUni ps k)]) (fun k => ps.length - k) (fun k => k ≤ ps.length) 0 (Nat.zero_le _) ?_ ?_
  · refine ⟨?_, ⟨by simp [zUni, fillLV], trivial⟩, rfl, rfl⟩
    repeat ((conv => whnf); refine ⟨rfl, ?_⟩)
    trivial
  rintro k hk
  ((repeat ((conv => whnf); first | refine brT ?_ | refine brF ?_)); conv => whnf)
  intro _
  ((repeat ((conv => whnf); first | refine brT ?_ | refine brF ?_)); conv => whnf)
  refine ⟨fun h1 => ?_, fun h1 => ?_⟩ <;> rw [h1]
  · have hlt : k < ps.length := by rw [ltI_t] at h1; simp at h1; omega
    ((repeat ((conv => whnf); first | refine brT ?_ | refine brF ?_)); conv => whnf)
    refine ⟨k, ps[k].lv, rfl, by simp [hlt], rfl, ?_⟩
    ((repeat ((conv => whnf); first | refine brT ?_ | refine brF ?_)); conv => whnf)
    refine ⟨_, toUnion_spec ps[k], ?_⟩
    ((repeat ((conv => whnf); first | refine brT ?_ | refine brF ?_)); conv => whnf)
    refine ⟨(fill_len hk).symm, rfl, k, rfl, by rw [fill_len hk]; exact hlt, ?_⟩
    ((repeat ((conv => whnf); first | refine brT ?_ | refine brF ?_)); conv => whnf)
    refine ⟨(fill_len hk).symm, k, [], zUni, rfl, by simp [getP, fill_get hlt], rfl, rfl, rfl, _, rfl, ?_⟩
    ((repeat ((conv => whnf); first | refine brT ?_ | refine brF ?_)); conv => whnf)
    refine round_end (k + 1) hlt (by omega) ⟨?_, ⟨?_, trivial⟩, rfl, rfl⟩
    · have e := step_i hlt hp'
      repeat ((conv => whnf); first | refine ⟨e, ?_⟩ | refine ⟨rfl, ?_⟩)
      trivial
    · have e3 : (match (fillLV Uni.lv zUni ps k)[k]? with | some z => (fillLV Uni.lv zUni ps k).set k (setP z [] ps[k].lv) | none => fillLV Uni.lv zUni ps k) = fillLV Uni.lv zUni ps (k + 1) := by
        rw [fill_get hlt]
        simp only [zUni, setP]
        exact fill_set hlt
      exact congrArg (Blk.arr 74 4) e3
  · have h3 : ps.length ≤ k := by rw [ltI_f] at h1; simp at h1; omega
    have h4 : k = ps.length := by omega
    subst h4
    ((repeat ((conv => whnf); first | refine brT ?_ | refine brF ?_)); conv => whnf)
    exact ⟨(fill_len (Nat.le_refl _)).symm, rfl, rfl, fill_all, by simp⟩

theorem toFamily_spec (ps : List Per) (us : List Uni) (hp : 56 * ps.length ≤ 281474976710656) (hu : 32 * us.length ≤ 281474976710656) : FSpec env.P 7 [famLV ps us] (famLV ps us) := by
  refine FSpec_of_code env_ok (fn := Tryz.f7) Tryz.func7 rfl Tryz.call7 _ _ ?_
  ((repeat ((conv => whnf); first | refine brT ?_ | refine brF ?_)); conv => whnf)
  refine ⟨_, toPersonS_spec ps hp, ?_⟩
  ((repeat ((conv => whnf); first | refine brT ?_ | refine brF ?_)); conv => whnf)
  refine ⟨_, toUnionS_spec us hu, ?_⟩
  ((repeat ((conv => whnf); first | refine brT ?_ | refine brF ?_)); conv => whnf)
  refine ⟨_, rfl, rfl, ?_⟩
  repeat ((conv => whnf); refine ⟨rfl, ?_⟩)

  exact List.nodup_nil
end Go.Proofs.YtbiagkccgijdlaaGreat


namespace Go.Proofs.YtbiagkccgijdlaaGreat
open Go.Lg
set_option maxHeartbeats 400000
set_option maxRecDepth 10000
set_option linter.unusedVariables false
set_option linter.unusedSimpArgs false

structure FamOK (ps : List Per) (us : List Uni) : Prop where
  p : ps.length ≤ Go.maxLen
  u : us.length ≤ Go.maxLen
  n : ∀ p ∈ ps, p.name.size ≤ Go.maxLen

theorem wrap_sub {n : Int} {k : Nat} (h0 : 0 ≤ n) (h1 : n ≤ 1048576) (hk : k ≤ Go.maxLen) : IntKind.i64.wrap (n - (k : Int)) = n - k := by
  unfold Go.maxLen at hk
  exact wrap64 (by omega) (by omega)
theorem szPer_le {n : Int} {p : Per} (h0 : 0 ≤ n) (h1 : n ≤ 1048576) (hp : p.name.size ≤ Go.maxLen) : szPer n p ≤ n := by
  unfold szPer
  rw [wrap_sub h0 h1 hp]
  split <;> omega
theorem szFold_le : ∀ {ps : List Per} {n : Int}, 0 ≤ n → n ≤ 1048576 → (∀ p ∈ ps, p.name.size ≤ Go.maxLen) → szFold n ps ≤ n
  | [], n, _, _, _ => Int.le_refl n
  | p :: ps, n, h0, h1, h => by
    have h2 := szPer_le h0 h1 (h p (by simp))
    unfold szFold
    split
    · omega
    · rename_i hh
      rw [ltI_f] at hh
      have := szFold_le (ps := ps) hh (by omega) (fun q hq => h q (List.mem_cons_of_mem _ hq))
      omega
theorem szPers_ok {ps : List Per} {n : Int} (h0 : 0 ≤ n) (h1 : n ≤ 1048576) (hl : ps.length ≤ Go.maxLen) (h : ∀ p ∈ ps, p.name.size ≤ Go.maxLen) (hk : 0 ≤ szPers n ps) : (ps.length : Int) ≤ n ∧ szPers n ps ≤ n := by
  unfold szPers at hk ⊢
  rw [wrap_sub h0 h1 hl] at hk ⊢
  split at hk
  · omega
  · rename_i hh
    rw [ltI_f] at hh
    have := szFold_le hh (by omega) h
    exact ⟨by omega, by omega⟩
theorem szUnis_ok {us : List Uni} {n : Int} (h0 : 0 ≤ n) (h1 : n ≤ 1048576) (hl : us.length ≤ Go.maxLen) (hk : 0 ≤ szUnis n us) : (us.length : Int) ≤ n ∧ szUnis n us ≤ n := by
  unfold szUnis at hk ⊢
  rw [wrap_sub h0 h1 hl] at hk ⊢
  split at hk
  · omega
  · rename_i hh
    rw [ltI_f] at hh
    exact ⟨by omega, by omega⟩
theorem szFam_ok {ps : List Per} {us : List Uni} {n : Int} (h0 : 0 ≤ n) (h1 : n ≤ 1048576) (hf : FamOK ps us) (hk : 0 ≤ szFam n ps us) :
    56 * ps.length ≤ 281474976710656 ∧ 32 * us.length ≤ 281474976710656 ∧ szFam n ps us ≤ n := by
  unfold szFam at hk ⊢
  split at hk
  · omega
  · rename_i hh
    rw [ltI_f] at hh
    obtain ⟨a1, a2⟩ := szPers_ok h0 h1 hf.p hf.n hh
    split at hk
    · omega
    · rename_i h3
      rw [ltI_f] at h3
      obtain ⟨b1, b2⟩ := szUnis_ok hh (by omega) hf.u h3
      exact ⟨by omega, by omega, by omega⟩

theorem eqS_refl (s : ByteArray) : eqS s s = true := by unfold eqS; simp
theorem eqI_refl (n : Int) : eqI n n = true := by unfold eqI; simp
theorem Per.eq_refl (p : Per) : p.eq p = true := by simp [Per.eq, eqS_refl, eqI_refl]
theorem Uni.eq_refl (p : Uni) : p.eq p = true := by simp [Uni.eq, eqI_refl]
theorem eqList_refl {α : Type} {eq : α → α → Bool} (h : ∀ x, eq x x = true) : ∀ xs, eqList eq xs xs = true
  | [] => rfl
  | x :: xs => by simp [eqList, h x, eqList_refl h xs]
theorem eqFam_refl (ps : List Per) (us : List Uni) : eqFam ps ps us us = true := by simp [eqFam, eqList_refl Per.eq_refl, eqList_refl Uni.eq_refl]

end Go.Proofs.YtbiagkccgijdlaaGreat

namespace Go.Proofs.YtbiagkccgijdlaaGreat
open Go.Lg
set_option maxHeartbeats 400000
set_option maxRecDepth 10000
set_option linter.unusedVariables false
set_option linter.unusedSimpArgs false

/-- impl.isEndYear -/
def endYear (y b : Int) : Bool := eqI y (-1) || (leI b y && leI y 9999)
theorem isEndYear_spec (y b : Int) : FSpec env.P 93 [.int .i64 y, .int .i64 b] (.bool (endYear y b)) := by
  refine FSpec_of_code env_ok (fn := Tryz.f93) Tryz.func93 rfl Tryz.call93 _ _ ?_
  ((repeat ((conv => whnf); first | refine brT ?_ | refine brF ?_)); conv => whnf)
  refine ⟨fun h => ?_, fun h => ?_⟩ <;> rw [h]
  · ((repeat ((conv => whnf); first | refine brT ?_ | refine brF ?_)); conv => whnf); refine fin ?_; simp [endYear, h]
  ((repeat ((conv => whnf); first | refine brT ?_ | refine brF ?_)); conv => whnf)
  refine ⟨fun h1 => ?_, fun h1 => ?_⟩ <;> rw [h1]
  · ((repeat ((conv => whnf); first | refine brT ?_ | refine brF ?_)); conv => whnf); refine fin ?_; simp [endYear, h, h1]
  · ((repeat ((conv => whnf); first | refine brT ?_ | refine brF ?_)); conv => whnf); refine fin ?_; simp [endYear, h, h1]

/-- impl.livedTo -/
def livedTo (p : Per) (y : Int) : Bool := eqI p.died (-1) || leI y p.died
theorem livedTo_spec (p : Per) (y : Int) : FSpec env.P 97 [p.lv, .int .i64 y] (.bool (livedTo p y)) := by
  refine FSpec_of_code env_ok (fn := Tryz.f97) Tryz.func97 rfl Tryz.call97 _ _ ?_
  ((repeat ((conv => whnf); first | refine brT ?_ | refine brF ?_)); conv => whnf)
  refine ⟨fun h => ?_, fun h => ?_⟩ <;> rw [h]
  · ((repeat ((conv => whnf); first | refine brT ?_ | refine brF ?_)); conv => whnf); refine fin ?_; simp [livedTo, h]
  · ((repeat ((conv => whnf); first | refine brT ?_ | refine brF ?_)); conv => whnf); refine fin ?_; simp [livedTo, h]

/-- impl.isParentOf -/
def parentOk (ps : List Per) (x sex born : Int) : Bool :=
  eqI x (-1) || (leI 0 x && match ps[x.toNat]? with
    | none => false
    | some q => eqI q.sex sex && (ltI q.born born && (match eqI sex 1 with | true => livedTo q (IntKind.i64.wrap (born - 1)) | false => livedTo q born)))
theorem isParentOf_spec (ps : List Per) (x sex born : Int) : FSpec env.P 94 [.sl (ps.map Per.lv), .int .i64 x, .int .i64 sex, .int .i64 born] (.bool (parentOk ps x sex born)) := by
  refine FSpec_of_code env_ok (fn := Tryz.f94) Tryz.func94 rfl Tryz.call94 _ _ ?_
  ((repeat ((conv => whnf); first | refine brT ?_ | refine brF ?_)); conv => whnf)
  refine ⟨fun h => ?_, fun h => ?_⟩ <;> rw [h]
  · ((repeat ((conv => whnf); first | refine brT ?_ | refine brF ?_)); conv => whnf); refine fin ?_; simp [parentOk, h]
  ((repeat ((conv => whnf); first | refine brT ?_ | refine brF ?_)); conv => whnf)
  refine ⟨fun h1 => ?_, fun h1 => ?_⟩ <;> rw [h1]
  · ((repeat ((conv => whnf); first | refine brT ?_ | refine brF ?_)); conv => whnf); refine fin ?_; have h2 : leI 0 x = false := by rw [leI_f]; rw [ltI_t] at h1; exact h1
    simp [parentOk, h, h2]
  rw [ltI_f] at h1
  have h0 : leI 0 x = true := by rw [leI_t]; exact h1
  ((repeat ((conv => whnf); first | refine brT ?_ | refine brF ?_)); conv => whnf)
  intro hp
  ((repeat ((conv => whnf); first | refine brT ?_ | refine brF ?_)); conv => whnf)
  refine ⟨fun h2 => ?_, fun h2 => ?_⟩ <;> rw [h2]
  · ((repeat ((conv => whnf); first | refine brT ?_ | refine brF ?_)); conv => whnf); refine fin ?_; rw [leI_t] at h2; have h3 : ps[x.toNat]? = none := by rw [List.getElem?_eq_none]; simp at h2; omega
    simp [parentOk, h, h0, h3]
  rw [leI_f] at h2
  have hlt : x.toNat < ps.length := by simp at h2; omega
  have hg : ps[x.toNat]? = some ps[x.toNat] := List.getElem?_eq_getElem hlt
  ((repeat ((conv => whnf); first | refine brT ?_ | refine brF ?_)); conv => whnf)
  refine ⟨x.toNat, ps[x.toNat].lv, by omega, by simp [hlt], rfl, ?_⟩
  ((repeat ((conv => whnf); first | refine brT ?_ | refine brF ?_)); conv => whnf)
  refine ⟨fun h4 => ?_, fun h4 => ?_⟩ <;> rw [h4]
  · ((repeat ((conv => whnf); first | refine brT ?_ | refine brF ?_)); conv => whnf); refine fin ?_; rw [notB_t] at h4; simp [parentOk, h, h0, hg, h4]
  rw [notB_f] at h4
  ((repeat ((conv => whnf); first | refine brT ?_ | refine brF ?_)); conv => whnf)
  refine ⟨fun h5 => ?_, fun h5 => ?_⟩ <;> rw [h5]
  · ((repeat ((conv => whnf); first | refine brT ?_ | refine brF ?_)); conv => whnf); refine fin ?_; have h6 : ltI ps[x.toNat].born born = false := by rw [ltI_f]; rw [leI_t] at h5; exact h5
    simp [parentOk, h, h0, hg, h4, h6]
  have h6 : ltI ps[x.toNat].born born = true := by rw [ltI_t]; rw [leI_f] at h5; exact h5
  ((repeat ((conv => whnf); first | refine brT ?_ | refine brF ?_)); conv => whnf)
  refine ⟨fun h7 => ?_, fun h7 => ?_⟩ <;> rw [h7]
  · ((repeat ((conv => whnf); first | refine brT ?_ | refine brF ?_)); conv => whnf)
    refine ⟨_, livedTo_spec ps[x.toNat] _, ?_⟩
    ((repeat ((conv => whnf); first | refine brT ?_ | refine brF ?_)); conv => whnf); refine fin ?_; simp [parentOk, h, h0, hg, h4, h6, h7]
  · ((repeat ((conv => whnf); first | refine brT ?_ | refine brF ?_)); conv => whnf)
    refine ⟨_, livedTo_spec ps[x.toNat] _, ?_⟩
    ((repeat ((conv => whnf); first | refine brT ?_ | refine brF ?_)); conv => whnf); refine fin ?_; simp [parentOk, h, h0, hg, h4, h6, h7]
end Go.Proofs.YtbiagkccgijdlaaGreat


namespace Go.Proofs.YtbiagkccgijdlaaGreat
open Go.Lg
set_option maxHeartbeats 400000
set_option maxRecDepth 10000
set_option linter.unusedVariables false
set_option linter.unusedSimpArgs false

/-- The first of that name. -/
def findFrom (n : ByteArray) : Nat → List Per → Option Nat
  | _, [] => none
  | i, p :: ps => match eqS p.name n with | true => some i | false => findFrom n (i + 1) ps
def foundLV : Option Nat → LV
  | some i => .tup [.int .i64 (i : Int), .bool true]
  | none => .tup [.int .i64 0, .bool false]

theorem indexOfName_spec (ps : List Per) (n : ByteArray) : FSpec env.P 91 [.sl (ps.map Per.lv), .str n] (foundLV (findFrom n 0 ps)) := by
  refine FSpec_of_code env_ok (fn := Tryz.f91) Tryz.func91 rfl Tryz.call91 _ _ ?_
  ((repeat ((conv => whnf); first | refine brT ?_ | refine brF ?_)); conv => whnf)
  intro hp
  have hp' : ps.length ≤ Go.maxLen := by simpa using hp
  ((repeat ((conv => whnf); first | refine brT ?_ | refine brF ?_)); conv => whnf)
  refine loop_rule (α := Nat) (fun k => [(10, .int .i64 (k : Int))]) (fun k => []) (fun k => ps.length - k) (fun k => k ≤ ps.length ∧ findFrom n k (ps.drop k) = findFrom n 0 ps) 0 ⟨Nat.zero_le _, rfl⟩ ?_ ?_
  · refine ⟨?_, trivial, rfl, rfl⟩
    repeat ((conv => whnf); refine ⟨rfl, ?_⟩)
    trivial
  rintro k ⟨hk, hf⟩
  ((repeat ((conv => whnf); first | refine brT ?_ | refine brF ?_)); conv => whnf)
  refine ⟨fun h1 => ?_, fun h1 => ?_⟩ <;> rw [h1]
  · have hlt : k < ps.length := by rw [ltI_t] at h1; simp at h1; omega
    have hd : ps.drop k = ps[k] :: ps.drop (k + 1) := List.drop_eq_getElem_cons hlt
    rw [hd] at hf
    simp only [findFrom] at hf
    ((repeat ((conv => whnf); first | refine brT ?_ | refine brF ?_)); conv => whnf)
    refine ⟨k, ps[k].lv, rfl, by simp [hlt], rfl, ?_⟩
    ((repeat ((conv => whnf); first | refine brT ?_ | refine brF ?_)); conv => whnf)
    refine ⟨fun h2 => ?_, fun h2 => ?_⟩ <;> rw [h2]
    · rw [h2] at hf
      rw [← hf]
      ((repeat ((conv => whnf); first | refine brT ?_ | refine brF ?_)); conv => whnf)
      repeat ((conv => whnf); refine ⟨rfl, ?_⟩)
      exact List.nodup_nil
    · rw [h2] at hf
      ((repeat ((conv => whnf); first | refine brT ?_ | refine brF ?_)); conv => whnf)
      refine round_end (k + 1) ⟨hlt, hf⟩ (by omega) ⟨?_, trivial, rfl, rfl⟩
      have e := step_i hlt hp'
      repeat ((conv => whnf); first | refine ⟨e, ?_⟩ | refine ⟨rfl, ?_⟩)
      trivial
  · have h3 : ps.length ≤ k := by rw [ltI_f] at h1; simp at h1; omega
    rw [List.drop_eq_nil_of_le h3] at hf
    simp only [findFrom] at hf
    rw [← hf]
    ((repeat ((conv => whnf); first | refine brT ?_ | refine brF ?_)); conv => whnf)
    repeat ((conv => whnf); refine ⟨rfl, ?_⟩)
    exact List.nodup_nil

end Go.Proofs.YtbiagkccgijdlaaGreat

namespace Go.Proofs.YtbiagkccgijdlaaGreat
open Go.Lg
set_option maxHeartbeats 400000
set_option linter.unusedVariables false
set_option linter.unusedSimpArgs false

theorem l1In_spec (x a b : Int) : FSpec env.P 48 [.int .i64 x, .int .i64 a, .int .i64 b] (.bool (leI a x && leI x b)) := by
  refine FSpec_of_code env_ok (fn := Tryz.f48) Tryz.func48 rfl Tryz.call48 _ _ ?_
  conv => whnf
  refine ⟨fun h => ?_, fun h => ?_⟩ <;> rw [h] <;> conv => whnf
  · repeat (refine brT ?_; conv => whnf)
    exact fin rfl
  · repeat (refine brF ?_; conv => whnf)
    exact fin rfl

def low (c : UInt8) : Bool := !(ltI (c.toNat : Int) 97 || ltI 122 (c.toNat : Int))
def lowTo (s : ByteArray) (k : Nat) : Prop := ∀ j (h : j < s.size), j < k → low s[j] = true
def allLow (s : ByteArray) : Bool := s.data.toList.all low
def isName (s : ByteArray) : Bool := allLow s && (leI 1 (s.size : Int) && leI (s.size : Int) 12)

theorem lowTo.succ {s : ByteArray} {k : Nat} (h : lowTo s k) (hk : k < s.size) (hl : low s[k] = true) : lowTo s (k + 1) := by
  intro j hj hjk
  by_cases e : j = k
  · subst e; exact hl
  · exact h j hj (by omega)
theorem lowTo.all {s : ByteArray} {k : Nat} (h : lowTo s k) (hk : s.size ≤ k) : allLow s = true := by
  unfold allLow
  rw [List.all_eq_true]
  intro c hc
  obtain ⟨j, hj, rfl⟩ := List.mem_iff_getElem.1 hc
  have hj' : j < s.size := by simpa using hj
  exact h j hj' (by omega)
theorem isName_no {s : ByteArray} {k : Nat} (hk : k < s.size) (hl : low s[k] = false) : isName s = false := by
  have : allLow s = false := by
    unfold allLow
    rw [List.all_eq_false]
    exact ⟨s[k], by exact Array.getElem_mem_toList _, by simp [hl]⟩
  unfold isName; rw [this]; rfl

theorem isName_spec (s : ByteArray) : FSpec env.P 80 [.str s] (.bool (isName s)) := by
  refine FSpec_of_code env_ok (fn := Tryz.f80) Tryz.func80 rfl Tryz.call80 _ _ ?_
  conv => whnf
  refine loop_rule (α := Nat) (fun k => [(3, .int .i64 (k : Int))]) (fun _ => []) (fun k => s.size - k) (fun k => k ≤ s.size ∧ lowTo s k) 0 ⟨Nat.zero_le _, fun _ _ h => absurd h (Nat.not_lt_zero _)⟩ ?_ ?_
  · refine ⟨?_, trivial, rfl, rfl⟩
    repeat ((conv => whnf); refine ⟨rfl, ?_⟩)
    trivial
  · rintro k ⟨hk, hlow⟩
    conv => whnf
    intro hs
    conv => whnf
    refine ⟨fun h => ?_, fun h => ?_⟩
    · rw [h]
      have hlt : k < s.size := by rw [ltI_t] at h; omega
      conv => whnf
      refine ⟨k, hlt, rfl, ?_⟩
      conv => whnf
      refine ⟨fun h1 => ?_, fun h1 => ?_⟩
      · rw [h1]
        have hno : false = isName s := (isName_no hlt (by simp [low, h1])).symm
        repeat ((conv => whnf); first | refine brT ?_ | refine brF ?_)
        exact fin hno
      · rw [h1]
        repeat ((conv => whnf); first | refine brT ?_ | refine brF ?_)
        refine ⟨k, hlt, rfl, ?_⟩
        repeat ((conv => whnf); first | refine brT ?_ | refine brF ?_)
        refine ⟨fun h2 => ?_, fun h2 => ?_⟩
        · rw [h2]
          have hno : false = isName s := (isName_no hlt (by simp [low, h1, h2])).symm
          repeat ((conv => whnf); first | refine brT ?_ | refine brF ?_)
          exact fin hno
        · rw [h2]
          have hl := hlow.succ hlt (by simp [low, h1, h2])
          conv => whnf
          refine round_end (k + 1) ⟨hlt, hl⟩ (by omega) ⟨?_, trivial, rfl, rfl⟩
          have e := step_i hlt hs
          repeat ((conv => whnf); first | refine ⟨e, ?_⟩ | refine ⟨rfl, ?_⟩)
          trivial
    · rw [h]
      rw [ltI_f] at h
      conv => whnf
      intro _
      conv => whnf
      refine ⟨_, l1In_spec _ _ _, ?_⟩
      conv => whnf
      refine fin ?_
      unfold isName
      rw [hlow.all (by omega)]
      rfl
end Go.Proofs.YtbiagkccgijdlaaGreat


namespace Go.Proofs.YtbiagkccgijdlaaGreat
open Go.Lg
set_option maxHeartbeats 800000
set_option maxRecDepth 10000
set_option linter.unusedVariables false
set_option linter.unusedSimpArgs false

/-- laws.markText -/
def digits (n : Nat) (acc : ByteArray) : ByteArray := if h : n = 0 then acc else digits (n / 10) (bytesOf [IntKind.u8.wrap (IntKind.i64.wrap (48 + (n : Int).tmod 10))] ++ acc)
termination_by n
decreasing_by omega
def mText (k : Nat) : ByteArray := if k = 0 then ⟨#[109, 48]⟩ else ⟨#[109]⟩ ++ digits k ⟨#[]⟩
theorem bytesOf1_size (n : Int) : (bytesOf [n]).size = 1 := by unfold bytesOf; rw [bytesOf_size]; rfl
theorem digits_zero (acc : ByteArray) : digits 0 acc = acc := by rw [digits]; simp
theorem digits_pos {n : Nat} (h : 0 < n) (acc : ByteArray) : digits n acc = digits (n / 10) (bytesOf [IntKind.u8.wrap (IntKind.i64.wrap (48 + (n : Int).tmod 10))] ++ acc) := by
  rw [digits, dif_neg (by omega)]
theorem markText_spec (k : Nat) (hk : k ≤ 4611686018427387904) : FSpec env.P 59 [.int .i64 (k : Int)] (.str (mText k)) := by
  refine FSpec_of_code env_ok (fn := Tryz.f59) Tryz.func59 rfl Tryz.call59 _ _ ?_
  ((repeat ((conv => whnf); first | refine brT ?_ | refine brF ?_)); conv => whnf)
  (refine ⟨fun h => ?_, fun h => ?_⟩ <;> rw [h])
  · have : k = 0 := by rw [leI_t] at h; omega
    subst this
    ((repeat ((conv => whnf); first | refine brT ?_ | refine brF ?_)); conv => whnf)
    exact fin (by simp [mText])
  have hpos : 0 < k := by rw [leI_f] at h; omega
  ((repeat ((conv => whnf); first | refine brT ?_ | refine brF ?_)); conv => whnf)
  refine loop_rule (α := Nat × ByteArray) (fun x => [(0, .int .i64 (x.1 : Int)), (3, .str x.2)]) (fun x => []) (fun x => x.1) (fun x => digits x.1 x.2 = digits k ⟨#[]⟩ ∧ 10 ^ x.2.size * x.1 ≤ k ∧ x.1 ≤ k ∧ x.2.size ≤ 20) (k, ⟨#[]⟩) ⟨rfl, by simp [ByteArray.size], Nat.le_refl _, by simp [ByteArray.size]⟩ ?_ ?_
  · refine ⟨?_, trivial, rfl, rfl⟩
    ((repeat ((conv => whnf); refine ⟨rfl, ?_⟩)); trivial)
  rintro ⟨n, acc⟩ ⟨h1, h2, h3, h4⟩
  ((repeat ((conv => whnf); first | refine brT ?_ | refine brF ?_)); conv => whnf)
  (refine ⟨fun g1 => ?_, fun g1 => ?_⟩ <;> rw [g1])
  · have hn : 0 < n := by rw [ltI_t] at g1; omega
    have hs : acc.size ≤ 18 := by
      have h5 : 10 ^ acc.size ≤ k := Nat.le_trans (Nat.le_mul_of_pos_right _ hn) h2
      rcases Nat.lt_or_ge acc.size 19 with h | h
      · omega
      · have h6 : 10 ^ 19 ≤ 10 ^ acc.size := Nat.pow_le_pow_right (by decide) h
        have h7 : (10 : Nat) ^ 19 = 10000000000000000000 := by decide
        omega
    ((repeat ((conv => whnf); first | refine brT ?_ | refine brF ?_)); conv => whnf)
    refine ⟨by decide, ?_⟩
    ((repeat ((conv => whnf); first | refine brT ?_ | refine brF ?_)); conv => whnf)
    refine ⟨rfl, [IntKind.u8.wrap (IntKind.i64.wrap (48 + (n : Int).tmod 10))], rfl, ?_⟩
    ((repeat ((conv => whnf); first | refine brT ?_ | refine brF ?_)); conv => whnf)
    refine ⟨by rw [bytesOf1_size]; unfold Go.maxLen; omega, ?_⟩
    ((repeat ((conv => whnf); first | refine brT ?_ | refine brF ?_)); conv => whnf)
    refine ⟨by decide, ?_⟩
    have e : LV.int .i64 (IntKind.i64.wrap ((n : Int).tdiv 10)) = LV.int .i64 ((n / 10 : Nat) : Int) := by
      rw [show (n : Int).tdiv 10 = ((n / 10 : Nat) : Int) by rw [Int.tdiv_eq_ediv_of_nonneg (by omega)]; omega, wrap64 (by omega) (by omega)]
    ((repeat ((conv => whnf); first | refine brT ?_ | refine brF ?_)); conv => whnf)
    refine round_end (n / 10, bytesOf [IntKind.u8.wrap (IntKind.i64.wrap (48 + (n : Int).tmod 10))] ++ acc) ⟨by rw [← h1, digits_pos hn], ?_, by omega, ?_⟩ (by show n / 10 < n; omega) ⟨?_, trivial, rfl, rfl⟩
    · show 10 ^ (bytesOf [IntKind.u8.wrap (IntKind.i64.wrap (48 + (n : Int).tmod 10))] ++ acc).size * (n / 10) ≤ k
      rw [ByteArray.size_append, bytesOf1_size, Nat.add_comm, Nat.pow_succ]
      refine Nat.le_trans ?_ h2
      rw [Nat.mul_assoc]
      exact Nat.mul_le_mul_left _ (Nat.mul_div_le n 10)
    · show (bytesOf [IntKind.u8.wrap (IntKind.i64.wrap (48 + (n : Int).tmod 10))] ++ acc).size ≤ 20
      rw [ByteArray.size_append, bytesOf1_size]; omega
    · ((repeat ((conv => whnf); first | refine ⟨e, ?_⟩ | refine ⟨rfl, ?_⟩)); trivial)
  · have hn : n = 0 := by rw [ltI_f] at g1; omega
    subst hn
    rw [digits_zero] at h1
    ((repeat ((conv => whnf); first | refine brT ?_ | refine brF ?_)); conv => whnf)
    refine ⟨by have h5 : acc.size ≤ 20 := h4; unfold Go.maxLen; show 1 + acc.size ≤ _; omega, ?_⟩
    ((repeat ((conv => whnf); first | refine brT ?_ | refine brF ?_)); conv => whnf)
    refine fin ?_
    unfold mText
    rw [if_neg (by omega), ← h1]
end Go.Proofs.YtbiagkccgijdlaaGreat


namespace Go.Proofs.YtbiagkccgijdlaaGreat
open Go.Lg
set_option maxHeartbeats 400000
set_option maxRecDepth 10000
set_option linter.unusedVariables false
set_option linter.unusedSimpArgs false

theorem decode_low (s : ByteArray) (pos : Nat) (h : pos < s.size) :
    (low s[pos] = true ∧ Utf8.decode s pos = (s[pos].toNat, 1) ∧ ltI (s[pos].toNat : Int) 97 = false ∧ ltI 122 (s[pos].toNat : Int) = false) ∨
    (low s[pos] = false ∧ (ltI ((Utf8.decode s pos).1 : Int) 97 || ltI 122 ((Utf8.decode s pos).1 : Int)) = true) := by
  by_cases ha : (s[pos]'h).toNat < 128
  · have e := decode_ascii s pos h ha
    by_cases hl : low s[pos] = true
    · have := hl
      simp only [low, Bool.not_eq_true', Bool.or_eq_false_iff] at this
      exact .inl ⟨hl, e, this.1, this.2⟩
    · have hl' : low s[pos] = false := by simpa using hl
      refine .inr ⟨hl', ?_⟩
      rw [e]
      unfold low at hl'
      simpa only [Bool.not_eq_false'] using hl'
  · have e := (decode_high s pos h (by omega)).1
    refine .inr ⟨?_, ?_⟩
    · unfold low ltI; simp; omega
    · unfold ltI; simp; omega

/-- impl.IsName -/
theorem isNameImpl_spec (s : ByteArray) : FSpec env.P 92 [.str s] (.bool (isName s)) := by
  refine FSpec_of_code env_ok (fn := Tryz.f92) Tryz.func92 rfl Tryz.call92 _ _ ?_
  ((repeat ((conv => whnf); first | refine brT ?_ | refine brF ?_)); conv => whnf)
  intro hs
  ((repeat ((conv => whnf); first | refine brT ?_ | refine brF ?_)); conv => whnf)
  (refine ⟨fun h => ?_, fun h => ?_⟩ <;> rw [h])
  · ((repeat ((conv => whnf); first | refine brT ?_ | refine brF ?_)); conv => whnf)
    refine fin ?_
    rw [eqI_t] at h
    have h0 : leI 1 (s.size : Int) = false := by rw [leI_f]; omega
    simp [isName, h0]
  rw [eqI_f] at h
  have h0 : leI 1 (s.size : Int) = true := by rw [leI_t]; omega
  ((repeat ((conv => whnf); first | refine brT ?_ | refine brF ?_)); conv => whnf)
  intro _
  ((repeat ((conv => whnf); first | refine brT ?_ | refine brF ?_)); conv => whnf)
  (refine ⟨fun h1 => ?_, fun h1 => ?_⟩ <;> rw [h1])
  · ((repeat ((conv => whnf); first | refine brT ?_ | refine brF ?_)); conv => whnf)
    refine fin ?_
    have h2 : leI (s.size : Int) 12 = false := by rw [leI_f]; rw [ltI_t] at h1; exact h1
    simp [isName, h2]
  have h2 : leI (s.size : Int) 12 = true := by rw [leI_t]; rw [ltI_f] at h1; exact h1
  ((repeat ((conv => whnf); first | refine brT ?_ | refine brF ?_)); conv => whnf)
  refine loop_rule (α := Nat) (fun k => []) (fun k => [.it s k]) (fun k => s.size - k) (fun k => k ≤ s.size ∧ lowTo s k) 0 ⟨Nat.zero_le _, fun _ _ h => absurd h (Nat.not_lt_zero _)⟩ ?_ ?_
  · refine ⟨?_, ⟨rfl, trivial⟩, rfl, rfl⟩
    ((repeat ((conv => whnf); refine ⟨rfl, ?_⟩)); trivial)
  rintro k ⟨hk, hlow⟩
  ((repeat ((conv => whnf); first | refine brT ?_ | refine brF ?_)); conv => whnf)
  refine ⟨fun hlt => ?_, fun hge => ?_⟩
  · rcases decode_low s k hlt with ⟨hl, hd, hd1, hd2⟩ | ⟨hl, hd⟩
    · rw [hd]
      ((repeat ((conv => whnf); first | refine brT ?_ | refine brF ?_)); conv => whnf)
      rw [hd1]
      ((repeat ((conv => whnf); first | refine brT ?_ | refine brF ?_)); conv => whnf)
      rw [hd2]
      ((repeat ((conv => whnf); first | refine brT ?_ | refine brF ?_)); conv => whnf)
      refine round_end (k + 1) ⟨hlt, hlow.succ hlt hl⟩ (by omega) ⟨?_, ⟨rfl, trivial⟩, rfl, rfl⟩
      ((repeat ((conv => whnf); refine ⟨rfl, ?_⟩)); trivial)
    · have hno : false = isName s := (isName_no hlt hl).symm
      generalize Utf8.decode s k = d at hd ⊢
      ((repeat ((conv => whnf); first | refine brT ?_ | refine brF ?_)); conv => whnf)
      (refine ⟨fun h3 => ?_, fun h3 => ?_⟩ <;> rw [h3])
      · ((repeat ((conv => whnf); first | refine brT ?_ | refine brF ?_)); conv => whnf); exact fin hno
      · ((repeat ((conv => whnf); first | refine brT ?_ | refine brF ?_)); conv => whnf)
        rw [h3, Bool.false_or] at hd
        rw [hd]
        ((repeat ((conv => whnf); first | refine brT ?_ | refine brF ?_)); conv => whnf); exact fin hno
  · ((repeat ((conv => whnf); first | refine brT ?_ | refine brF ?_)); conv => whnf)
    refine fin ?_
    rw [isName, hlow.all (by omega), h0, h2]
    rfl

/-- impl.isOfSex -/
def ofSex (ps : List Per) (x sex : Int) : Bool := leI 0 x && match ps[x.toNat]? with | some q => eqI q.sex sex | none => false
theorem isOfSex_spec (ps : List Per) (x sex : Int) : FSpec env.P 95 [.sl (ps.map Per.lv), .int .i64 x, .int .i64 sex] (.bool (ofSex ps x sex)) := by
  refine FSpec_of_code env_ok (fn := Tryz.f95) Tryz.func95 rfl Tryz.call95 _ _ ?_
  ((repeat ((conv => whnf); first | refine brT ?_ | refine brF ?_)); conv => whnf)
  (refine ⟨fun h => ?_, fun h => ?_⟩ <;> rw [h])
  · rw [leI_t] at h
    have h0 : leI 0 x = true := by rw [leI_t]; exact h
    ((repeat ((conv => whnf); first | refine brT ?_ | refine brF ?_)); conv => whnf)
    intro hl
    ((repeat ((conv => whnf); first | refine brT ?_ | refine brF ?_)); conv => whnf)
    (refine ⟨fun h1 => ?_, fun h1 => ?_⟩ <;> rw [h1])
    · have hlt : x.toNat < ps.length := by rw [ltI_t] at h1; simp at h1; omega
      have hg : ps[x.toNat]? = some ps[x.toNat] := List.getElem?_eq_getElem hlt
      ((repeat ((conv => whnf); first | refine brT ?_ | refine brF ?_)); conv => whnf)
      refine ⟨x.toNat, ps[x.toNat].lv, by omega, by simp [hlt], rfl, ?_⟩
      ((repeat ((conv => whnf); first | refine brT ?_ | refine brF ?_)); conv => whnf)
      refine fin ?_
      simp [ofSex, h0, hg]
    · ((repeat ((conv => whnf); first | refine brT ?_ | refine brF ?_)); conv => whnf)
      refine fin ?_
      have h3 : ps[x.toNat]? = none := by rw [List.getElem?_eq_none]; rw [ltI_f] at h1; simp at h1; omega
      simp [ofSex, h3]
  · rw [leI_f] at h
    have h0 : leI 0 x = false := by rw [leI_f]; exact h
    ((repeat ((conv => whnf); first | refine brT ?_ | refine brF ?_)); conv => whnf)
    refine fin ?_
    simp [ofSex, h0]

/-- impl.isUnited -/
def unitedOf (m f : Int) (u : Uni) : Bool := eqI u.husband m && eqI u.wife f
theorem isUnited1_spec (u : Uni) (m f : Int) : FSpec env.P 126 [u.lv, .ref (.int .i64 m), .ref (.int .i64 f)] (.bool (unitedOf m f u)) := by
  refine FSpec_of_code env_ok (fn := Tryz.f126) Tryz.func126 rfl Tryz.call126 _ _ ?_
  ((repeat' (((repeat ((conv => whnf); first | refine brT ?_ | refine brF ?_)); conv => whnf); (refine And.intro ?_ ?_ <;> (intro h; rw [h]; revert h; intro _)))); all_goals ((repeat ((conv => whnf); first | refine brT ?_ | refine brF ?_)); conv => whnf))
  · refine fin ?_; simp [unitedOf, *]
  · refine fin ?_; simp [unitedOf, *]

/-- The first place where it holds. -/
def idxFrom {α : Type} (q : α → Bool) : Nat → List α → Int
  | _, [] => -1
  | i, p :: ps => match q p with | true => (i : Int) | false => idxFrom q (i + 1) ps
theorem idxFrom_ge {α : Type} (q : α → Bool) : ∀ (i : Nat) (ps : List α), leI 0 (idxFrom q i ps) = ps.any q
  | _, [] => by simp [idxFrom, leI]
  | i, p :: ps => by
    simp only [idxFrom, List.any_cons]
    cases h : q p
    · simpa using idxFrom_ge q (i + 1) ps
    · simp [leI]

theorem indexFunc_spec (m f : Int) (us : List Uni) : FSpec env.P 148 [.sl (us.map Uni.lv), .clos 126 [.ref (.int .i64 m), .ref (.int .i64 f)]] (.int .i64 (idxFrom (unitedOf m f) 0 us)) := by
  refine FSpec_of_code env_ok (fn := Tryz.f148) Tryz.func148 rfl Tryz.call148 _ _ ?_
  ((repeat ((conv => whnf); first | refine brT ?_ | refine brF ?_)); conv => whnf)
  intro hp
  have hp' : us.length ≤ Go.maxLen := by simpa using hp
  ((repeat ((conv => whnf); first | refine brT ?_ | refine brF ?_)); conv => whnf)
  refine loop_rule (α := Nat) (fun k => [(8, .int .i64 (k : Int))]) (fun k => []) (fun k => us.length - k) (fun k => k ≤ us.length ∧ idxFrom (unitedOf m f) k (us.drop k) = idxFrom (unitedOf m f) 0 us) 0 ⟨Nat.zero_le _, rfl⟩ ?_ ?_
  · refine ⟨?_, trivial, rfl, rfl⟩
    ((repeat ((conv => whnf); refine ⟨rfl, ?_⟩)); trivial)
  rintro k ⟨hk, hf⟩
  ((repeat ((conv => whnf); first | refine brT ?_ | refine brF ?_)); conv => whnf)
  (refine ⟨fun h1 => ?_, fun h1 => ?_⟩ <;> rw [h1])
  · have hlt : k < us.length := by rw [ltI_t] at h1; simp at h1; omega
    rw [List.drop_eq_getElem_cons hlt] at hf
    simp only [idxFrom] at hf
    ((repeat ((conv => whnf); first | refine brT ?_ | refine brF ?_)); conv => whnf)
    refine ⟨k, us[k].lv, rfl, by simp [hlt], rfl, ?_⟩
    ((repeat ((conv => whnf); first | refine brT ?_ | refine brF ?_)); conv => whnf)
    refine ⟨_, isUnited1_spec us[k] m f, ?_⟩
    ((repeat ((conv => whnf); first | refine brT ?_ | refine brF ?_)); conv => whnf)
    (refine ⟨fun h2 => ?_, fun h2 => ?_⟩ <;> rw [h2])
    · rw [h2] at hf
      ((repeat ((conv => whnf); first | refine brT ?_ | refine brF ?_)); conv => whnf)
      exact ⟨rfl, by rw [← hf], List.nodup_nil⟩
    · rw [h2] at hf
      ((repeat ((conv => whnf); first | refine brT ?_ | refine brF ?_)); conv => whnf)
      refine round_end (k + 1) ⟨hlt, hf⟩ (by omega) ⟨?_, trivial, rfl, rfl⟩
      have e := step_i hlt hp'
      ((repeat ((conv => whnf); first | refine ⟨e, ?_⟩ | refine ⟨rfl, ?_⟩)); trivial)
  · have h3 : us.length ≤ k := by rw [ltI_f] at h1; simp at h1; omega
    rw [List.drop_eq_nil_of_le h3] at hf
    ((repeat ((conv => whnf); first | refine brT ?_ | refine brF ?_)); conv => whnf)
    exact ⟨rfl, by rw [← hf]; rfl, List.nodup_nil⟩

theorem containsFunc_spec (m f : Int) (us : List Uni) : FSpec env.P 125 [.sl (us.map Uni.lv), .clos 126 [.ref (.int .i64 m), .ref (.int .i64 f)]] (.bool (us.any (unitedOf m f))) := by
  refine FSpec_of_code env_ok (fn := Tryz.f125) Tryz.func125 rfl Tryz.call125 _ _ ?_
  ((repeat ((conv => whnf); first | refine brT ?_ | refine brF ?_)); conv => whnf)
  refine ⟨_, indexFunc_spec m f us, ?_⟩
  ((repeat ((conv => whnf); first | refine brT ?_ | refine brF ?_)); conv => whnf)
  exact fin (idxFrom_ge _ _ _)

theorem isUnited_spec (us : List Uni) (m f : Int) : FSpec env.P 96 [.sl (us.map Uni.lv), .int .i64 m, .int .i64 f] (.bool (us.any (unitedOf m f))) := by
  refine FSpec_of_code env_ok (fn := Tryz.f96) Tryz.func96 rfl Tryz.call96 _ _ ?_
  ((repeat ((conv => whnf); first | refine brT ?_ | refine brF ?_)); conv => whnf)
  refine ⟨_, containsFunc_spec m f us, ?_⟩
  ((repeat ((conv => whnf); first | refine brT ?_ | refine brF ?_)); conv => whnf)
  exact fin rfl

/-- impl.knownParents -/
def notNone (x : Int) : Bool := notB (eqI x (-1))
def known (p : Per) : List Int := [p.father, p.mother].filter notNone
def intLV (n : Int) : LV := .int .i64 n
def knownTo (p : Per) (k : Nat) : List Int := ([p.father, p.mother].take k).filter notNone
theorem knownTo_succ (p : Per) (k : Nat) (h : k < 2) : knownTo p (k + 1) = knownTo p k ++ (if notNone ([p.father, p.mother][k]'h) then [[p.father, p.mother][k]'h] else []) := by
  unfold knownTo
  rw [List.take_succ_eq_append_getElem h, List.filter_append]
  congr 1
  simp [List.filter]
  split <;> simp_all
theorem knownTo_len (p : Per) (k : Nat) : (knownTo p k).length ≤ 2 := by
  unfold knownTo
  refine Nat.le_trans (List.length_filter_le _ _) ?_
  simp; omega
theorem knownParents_spec (p : Per) : FSpec env.P 98 [p.lv] (.own 3 1 ((known p).map intLV)) := by
  refine FSpec_of_code env_ok (fn := Tryz.f98) Tryz.func98 rfl Tryz.call98 _ _ ?_
  ((repeat ((conv => whnf); first | refine brT ?_ | refine brF ?_)); conv => whnf)
  refine ⟨rfl, fun _ => ?_⟩
  ((repeat ((conv => whnf); first | refine brT ?_ | refine brF ?_)); conv => whnf)
  refine loop_ruleR (α := Nat) [.old 0, .old 1, .nil 3 1] (fun k => [(12, .int .i64 (k : Int)), (3, .hs 2 ((knownTo p k).map intLV).length)]) (fun k => [.box p.lv, .arr 3 1 [.int .i64 p.father, .int .i64 p.mother], .arr 3 1 ((knownTo p k).map intLV)])
    (fun k => 2 - k) (fun k => k ≤ 2) 0 (by omega) ?_ ?_
  · refine ⟨?_, ⟨rfl, rfl, rfl, rfl, rfl, rfl, trivial⟩, rfl⟩
    ((repeat ((conv => whnf); refine ⟨rfl, rfl, ?_⟩)); trivial)
  intro k hk
  ((repeat ((conv => whnf); first | refine brT ?_ | refine brF ?_)); conv => whnf)
  have hn := knownTo_len p k
  have hn1 := knownTo_len p (k + 1)
  (refine ⟨fun h1 => ?_, fun h1 => ?_⟩ <;> rw [h1])
  · have hlt : k < 2 := by rw [ltI_t] at h1; simp at h1; omega
    have hs := knownTo_succ p k hlt
    ((repeat ((conv => whnf); first | refine brT ?_ | refine brF ?_)); conv => whnf)
    refine ⟨rfl, by decide, k, rfl, hlt, ?_⟩
    ((repeat ((conv => whnf); first | refine brT ?_ | refine brF ?_)); conv => whnf)
    refine ⟨rfl, by simp, .int .i64 ([p.father, p.mother][k]'hlt), ?_, rfl, ?_⟩
    · match k, hlt with
      | 0, _ => rfl
      | 1, _ => rfl
    ((repeat ((conv => whnf); first | refine brT ?_ | refine brF ?_)); conv => whnf)
    have e : LV.int .i64 (IntKind.i64.wrap ((k : Int) + 1)) = LV.int .i64 ((k + 1 : Nat) : Int) := step_i hlt (by decide)
    (refine ⟨fun h2 => ?_, fun h2 => ?_⟩ <;> rw [h2])
    · rw [show notNone ([p.father, p.mother][k]'hlt) = true from h2, if_pos rfl] at hs
      have e2 : ((knownTo p k).map intLV ++ [LV.int .i64 ([p.father, p.mother][k]'hlt)]) = (knownTo p (k + 1)).map intLV := by rw [hs, List.map_append]; rfl
      have e3 : LV.hs 2 ((knownTo p k).map intLV ++ [LV.int .i64 ([p.father, p.mother][k]'hlt)]).length = LV.hs 2 ((knownTo p (k + 1)).map intLV).length := by rw [e2]
      ((repeat ((conv => whnf); first | refine brT ?_ | refine brF ?_)); conv => whnf)
      refine ⟨rfl, rfl, ?_, ?_, ?_⟩
      · rw [e2]; unfold Go.maxLen; simp; omega
      · rw [e2]; simp; omega
      ((repeat ((conv => whnf); first | refine brT ?_ | refine brF ?_)); conv => whnf)
      refine round_endR [.old 0, .old 1, .old 4] (k + 1) hlt (by omega) ⟨?_, ⟨rfl, rfl, rfl, rfl, rfl, congrArg (Blk.arr 3 1) e2, trivial⟩, rfl⟩
      repeat ((conv => whnf); first | refine ⟨rfl, e, ?_⟩ | refine ⟨rfl, e3, ?_⟩ | refine ⟨rfl, rfl, ?_⟩)
      trivial
    · rw [show notNone ([p.father, p.mother][k]'hlt) = false from h2, if_neg (by decide), List.append_nil] at hs
      have e2 : (knownTo p k).map intLV = (knownTo p (k + 1)).map intLV := by rw [hs]
      have e3 : LV.hs 2 ((knownTo p k).map intLV).length = LV.hs 2 ((knownTo p (k + 1)).map intLV).length := by rw [e2]
      ((repeat ((conv => whnf); first | refine brT ?_ | refine brF ?_)); conv => whnf)
      refine round_end (k + 1) hlt (by omega) ⟨?_, ⟨rfl, rfl, congrArg (Blk.arr 3 1) e2, trivial⟩, rfl, rfl⟩
      repeat ((conv => whnf); first | refine ⟨e, ?_⟩ | refine ⟨e3, ?_⟩ | refine ⟨rfl, ?_⟩)
      trivial
  · have h3 : k = 2 := by rw [ltI_f] at h1; simp at h1; omega
    subst h3
    ((repeat ((conv => whnf); first | refine brT ?_ | refine brF ?_)); conv => whnf)
    exact ⟨rfl, rfl, rfl, rfl, by simp⟩
end Go.Proofs.YtbiagkccgijdlaaGreat


namespace Go.Proofs.YtbiagkccgijdlaaGreat
open Go.Lg
set_option maxHeartbeats 1600000
set_option maxRecDepth 10000
set_option linter.unusedVariables false
set_option linter.unusedSimpArgs false

/-- Rows of integers, lent. -/
def rowSl (r : List Int) : LV := .sl (r.map intLV)
/-- Rows of integers, owned. -/
def rowOw (r : List Int) : LV := .own 3 1 (r.map intLV)
theorem dms_rows : ∀ rows : List (List Int), dms (rows.map rowOw) = rows.map rowSl
  | [] => rfl
  | r :: rs => by simp only [List.map_cons, dms, dms_rows rs]; rfl

end Go.Proofs.YtbiagkccgijdlaaGreat

namespace Go.Proofs.YtbiagkccgijdlaaGreat
open Go.Lg
set_option maxHeartbeats 1600000
set_option maxRecDepth 10000
set_option linter.unusedVariables false
set_option linter.unusedSimpArgs false

end Go.Proofs.YtbiagkccgijdlaaGreat


namespace Go.Proofs.YtbiagkccgijdlaaGreat
open Go.Lg
set_option maxHeartbeats 1600000
set_option maxRecDepth 10000
set_option linter.unusedVariables false
set_option linter.unusedSimpArgs false

/-- Rows that may be laid out again. -/
structure RowsOK (rows : List (List Int)) : Prop where
  n : 24 * rows.length ≤ 281474976710656
  each : ∀ r ∈ rows, 8 * r.length ≤ 281474976710656

end Go.Proofs.YtbiagkccgijdlaaGreat


namespace Go.Proofs.YtbiagkccgijdlaaGreat
open Go.Lg
set_option maxHeartbeats 1600000
set_option maxRecDepth 10000
set_option linter.unusedVariables false
set_option linter.unusedSimpArgs false

/-- How many integers the rows have. -/
def tot (rows : List (List Int)) : Nat := (rows.map List.length).sum
theorem tot_cons (r : List Int) (rs : List (List Int)) : tot (r :: rs) = r.length + tot rs := by simp [tot]
end Go.Proofs.YtbiagkccgijdlaaGreat

namespace Go.Proofs.YtbiagkccgijdlaaGreat
open Go.Lg
set_option maxHeartbeats 1600000
set_option maxRecDepth 10000
set_option linter.unusedVariables false
set_option linter.unusedSimpArgs false

def rowFrom (size : Int) : Int → List Int → Bool
  | _, [] => true
  | last, b :: bs => match leI b last with | true => false | false => match leI size b with | true => false | false => rowFrom size b bs
end Go.Proofs.YtbiagkccgijdlaaGreat

namespace Go.Proofs.YtbiagkccgijdlaaGreat
open Go.Lg
set_option maxHeartbeats 1600000
set_option maxRecDepth 10000
set_option linter.unusedVariables false
set_option linter.unusedSimpArgs false

structure RowsLen (rows : List (List Int)) : Prop where
  n : rows.length ≤ Go.maxLen
  each : ∀ r ∈ rows, r.length ≤ Go.maxLen

end Go.Proofs.YtbiagkccgijdlaaGreat

namespace Go.Proofs.YtbiagkccgijdlaaGreat
open Go.Lg
set_option maxHeartbeats 1600000
set_option maxRecDepth 10000
set_option linter.unusedVariables false
set_option linter.unusedSimpArgs false

theorem rowFrom_cons {n last b : Int} {bs : List Int} (h : rowFrom n last (b :: bs) = true) : last < b ∧ b < n ∧ rowFrom n b bs = true := by
  simp only [rowFrom] at h
  split at h
  · cases h
  · rename_i h1
    split at h
    · cases h
    · rename_i h2
      rw [leI_f] at h1 h2
      exact ⟨h1, h2, h⟩
theorem rowFrom_len : ∀ {r : List Int} {n last : Int}, rowFrom n last r = true → (r.length : Int) + last ≤ n - 1 ∨ r = []
  | [], _, _, _ => .inr rfl
  | x :: xs, n, last, h => by
    obtain ⟨h1, h2, h3⟩ := rowFrom_cons h
    left
    rcases rowFrom_len h3 with h4 | rfl
    · simp only [List.length_cons]; omega
    · simp; omega
structure RelIn (n : Int) (rows : List (List Int)) : Prop where
  lo : 0 ≤ n
  hi : n ≤ 40
  len : (rows.length : Int) = n
  row : ∀ r ∈ rows, rowFrom n (-1) r = true
theorem RelIn.rlen {n : Int} {rows : List (List Int)} (h : RelIn n rows) {r : List Int} (hr : r ∈ rows) : r.length ≤ 40 := by
  have h1 := h.hi
  rcases rowFrom_len (h.row r hr) with h2 | rfl
  · omega
  · simp

/-! ### Pairs -/
structure Pr where
  a : Int
  b : Int
def Pr.lv (p : Pr) : LV := .st [.int .i64 p.a, .int .i64 p.b]
theorem tot_le {m : Nat} : ∀ {rows : List (List Int)}, (∀ r ∈ rows, r.length ≤ m) → tot rows ≤ rows.length * m
  | [], _ => by simp [tot]
  | r :: rs, h => by
    have h1 := h r (by simp)
    have h2 := tot_le (rows := rs) fun q hq => h q (by simp [hq])
    rw [tot_cons, List.length_cons, Nat.succ_mul]; omega
theorem RelIn.tot {n : Int} {rows : List (List Int)} (h : RelIn n rows) : tot rows ≤ 1600 := by
  have h1 := tot_le (rows := rows) (m := 40) fun r hr => h.rlen hr
  have h2 : rows.length ≤ 40 := by have := h.len; have := h.hi; omega
  have := Nat.mul_le_mul_right 40 h2
  omega
end Go.Proofs.YtbiagkccgijdlaaGreat


namespace Go.Proofs.YtbiagkccgijdlaaGreat
open Go.Lg
set_option maxHeartbeats 1600000
set_option maxRecDepth 10000
set_option linter.unusedVariables false
set_option linter.unusedSimpArgs false

end Go.Proofs.YtbiagkccgijdlaaGreat

namespace Go.Proofs.YtbiagkccgijdlaaGreat
open Go.Lg
set_option maxHeartbeats 1600000
set_option maxRecDepth 10000
set_option linter.unusedVariables false
set_option linter.unusedSimpArgs false

end Go.Proofs.YtbiagkccgijdlaaGreat

namespace Go.Proofs.YtbiagkccgijdlaaGreat
open Go.Lg
set_option maxHeartbeats 1600000
set_option maxRecDepth 10000
set_option linter.unusedVariables false
set_option linter.unusedSimpArgs false

/-! A row whose element i is written field by field. -/
section
variable {L : List LV} {i : Nat}
theorem fw_get (h : i < L.length) (fs : List LV) : getP (.st (L.set i (.st fs))) [i] = some (.st fs) := by simp [getP, h]
theorem fw_get2 (h : i < L.length) {fs : List LV} {f : Nat} {x : LV} (hx : fs[f]? = some x) : getP (.st (L.set i (.st fs))) [i, f] = some x := by simp [getP, h, hx]
theorem fw_set (h : i < L.length) {fs : List LV} {f : Nat} {x : LV} (hx : fs[f]? = some x) (v : LV) :
    (match (L.set i (.st fs))[i]? with | some z => (L.set i (.st fs)).set i (setP z [f] v) | none => L.set i (.st fs)) = L.set i (.st (fs.set f v)) := by
  have : (L.set i (.st fs))[i]? = some (.st fs) := by simp [h]
  rw [this]
  simp only [setP, hx]
  cases x <;> simp [List.set_set]
end

def markPer (k : Nat) : Per := ⟨mText k, (k : Int) + 1, (k : Int) + 2, (k : Int) + 3, (k : Int) + 4, (k : Int) + 5⟩
def markPers (k : Nat) : Nat → List Per
  | 0 => []
  | n + 1 => markPers k n ++ [markPer (k + 6 * n)]
theorem markPers_len (k : Nat) : ∀ n, (markPers k n).length = n
  | 0 => rfl
  | n + 1 => by simp [markPers, markPers_len k n]
def rowPM (k : Nat) (ps : List Per) (i : Nat) : List LV := (markPers k i ++ ps.drop i).map Per.lv
theorem rowPM_len {k : Nat} {ps : List Per} {i : Nat} (h : i ≤ ps.length) : (rowPM k ps i).length = ps.length := by simp [rowPM, markPers_len]; omega
theorem rowPM_get {k : Nat} {ps : List Per} {i : Nat} (h : i < ps.length) : (rowPM k ps i)[i]? = some ps[i].lv := by
  unfold rowPM
  rw [List.getElem?_map, List.getElem?_append_right (by rw [markPers_len]; exact Nat.le_refl _), markPers_len, Nat.sub_self, List.getElem?_drop, Nat.add_zero, List.getElem?_eq_getElem h]
  rfl
theorem rowPM_set {k : Nat} {ps : List Per} {i : Nat} (h : i < ps.length) : (rowPM k ps i).set i (markPer (k + 6 * i)).lv = rowPM k ps (i + 1) := by
  unfold rowPM
  rw [List.drop_eq_getElem_cons h, List.map_append, List.map_cons, List.set_append_right _ _ (by simp [markPers_len])]
  simp [markPers, markPers_len]

theorem markPersonS_spec (ps : List Per) (n : Nat) (hn : n = (ps.map Per.lv).length) (k : Nat) (h1 : k + 6 * ps.length ≤ 2305843009213693952) :
    HSpec env.P 34 [.hs 0 n, .int .i64 (k : Int)] [.arr 57 6 (ps.map Per.lv)] (.int .i64 ((k + 6 * ps.length : Nat) : Int)) [.arr 57 6 ((markPers k ps.length).map Per.lv)] := by
  subst hn
  refine HSpec_of_code (E := env.x [] 1) env_ok.x (fn := Tryz.f34) Tryz.func34 rfl Tryz.call34 _ _ _ _ ?_
  ((repeat ((conv => whnf); first | refine brT ?_ | refine brF ?_)); conv => whnf)
  refine loop_rule (α := Nat) (fun i => [(5, .int .i64 (i : Int)), (1, .int .i64 ((k + 6 * i : Nat) : Int)), (0, .hs 0 (rowPM k ps i).length)]) (fun i => [.arr 57 6 (rowPM k ps i)]) (fun i => ps.length - i) (fun i => i ≤ ps.length) 0 (Nat.zero_le _) ?_ ?_
  · have e0 : ps.map Per.lv = rowPM k ps 0 := by simp [rowPM, markPers]
    have e1 : LV.hs 0 (ps.map Per.lv).length = LV.hs 0 (rowPM k ps 0).length := by rw [e0]
    refine ⟨?_, ⟨congrArg (Blk.arr 57 6) e0, trivial⟩, rfl, rfl⟩
    ((repeat ((conv => whnf); first | refine ⟨e1, ?_⟩ | refine ⟨rfl, ?_⟩)); trivial)
  intro i hi
  have hl := rowPM_len (k := k) hi
  ((repeat ((conv => whnf); first | refine brT ?_ | refine brF ?_)); conv => whnf)
  refine ⟨rfl, fun hm => ?_⟩
  have hm' : ps.length ≤ Go.maxLen := by rw [← hl]; exact hm
  ((repeat ((conv => whnf); first | refine brT ?_ | refine brF ?_)); conv => whnf)
  (refine ⟨fun g1 => ?_, fun g1 => ?_⟩ <;> rw [g1])
  · have hlt : i < ps.length := by rw [ltI_t] at g1; omega
    have e := step_i hlt hm'
    have hiL : i < (rowPM k ps i).length := by omega
    have hg := rowPM_get (k := k) hlt
    have hset := rowPM_set (k := k) hlt
    have w0 : IntKind.i64.wrap (((k + 6 * i : Nat) : Int) + 1) = ((k + 6 * i : Nat) : Int) + 1 := wrap64 (by omega) (by omega)
    have w1 : IntKind.i64.wrap (((k + 6 * i : Nat) : Int) + 1 + 1) = ((k + 6 * i : Nat) : Int) + 2 := by rw [wrap64 (by omega) (by omega)]; omega
    have w2 : IntKind.i64.wrap (((k + 6 * i : Nat) : Int) + 2 + 1) = ((k + 6 * i : Nat) : Int) + 3 := by rw [wrap64 (by omega) (by omega)]; omega
    have w3 : IntKind.i64.wrap (((k + 6 * i : Nat) : Int) + 3 + 1) = ((k + 6 * i : Nat) : Int) + 4 := by rw [wrap64 (by omega) (by omega)]; omega
    have w4 : IntKind.i64.wrap (((k + 6 * i : Nat) : Int) + 4 + 1) = ((k + 6 * i : Nat) : Int) + 5 := by rw [wrap64 (by omega) (by omega)]; omega
    have w5 : IntKind.i64.wrap (((k + 6 * i : Nat) : Int) + 5 + 1) = ((k + 6 * (i + 1) : Nat) : Int) := by rw [wrap64 (by omega) (by omega)]; omega
    have hlen : ∀ x : LV, (rowPM k ps i).length = ((rowPM k ps i).set i x).length := fun x => by simp
    generalize ps[i] = p at hg hset
    generalize hK : ((k + 6 * i : Nat) : Int) = kk at w0 w1 w2 w3 w4 w5 ⊢
    generalize hN : mText (k + 6 * i) = nm
    have hmt := markText_spec (k + 6 * i) (by omega)
    rw [hK, hN] at hmt
    have hfin : (rowPM k ps i).set i (.st [.str nm, .int .i64 (kk + 1), .int .i64 (kk + 2), .int .i64 (kk + 3), .int .i64 (kk + 4), .int .i64 (kk + 5)]) = rowPM k ps (i + 1) := by
      rw [← hset]; unfold markPer Per.lv; rw [hK, hN]
    generalize rowPM k ps i = L at hl hm hiL hg hlen hfin g1 ⊢
    have hgp : getP (.st L) [i] = some (.st [LV.str p.name, LV.int .i64 p.sex, LV.int .i64 p.father, LV.int .i64 p.mother, LV.int .i64 p.born, LV.int .i64 p.died]) := by simp [getP, hg, Per.lv]
    have hgp0 : getP (.st L) [i, 0] = some (.str p.name) := by simp [getP, hg, Per.lv]
    ((repeat ((conv => whnf); first | refine brT ?_ | refine brF ?_)); conv => whnf)
    refine ⟨_, hmt, ?_⟩
    ((repeat ((conv => whnf); first | refine brT ?_ | refine brF ?_)); conv => whnf)
    refine ⟨rfl, rfl, i, rfl, hiL, ?_⟩
    ((repeat ((conv => whnf); first | refine brT ?_ | refine brF ?_)); conv => whnf)
    refine ⟨rfl, by simp, [LV.str p.name, LV.int .i64 p.sex, LV.int .i64 p.father, LV.int .i64 p.mother, LV.int .i64 p.born, LV.int .i64 p.died], hgp, rfl, by simp, ?_⟩
    ((repeat ((conv => whnf); first | refine brT ?_ | refine brF ?_)); conv => whnf)
    refine ⟨rfl, i, [0], .str p.name, rfl, hgp0, rfl, rfl, rfl, L.set i (.st [.str nm, .int .i64 p.sex, .int .i64 p.father, .int .i64 p.mother, .int .i64 p.born, .int .i64 p.died]), by rw [hg]; rfl, ?_⟩
    ((repeat ((conv => whnf); first | refine brT ?_ | refine brF ?_)); conv => whnf)
    rw [w0]
    refine ⟨hlen _, rfl, i, rfl, by simpa using hiL, ?_⟩
    ((repeat ((conv => whnf); first | refine brT ?_ | refine brF ?_)); conv => whnf)
    refine ⟨hlen _, by simp, _, fw_get hiL _, rfl, by simp, ?_⟩
    ((repeat ((conv => whnf); first | refine brT ?_ | refine brF ?_)); conv => whnf)
    refine ⟨hlen _, i, [1], _, rfl, fw_get2 hiL rfl, rfl, rfl, rfl, _, fw_set hiL rfl (.int .i64 (kk + 1)), ?_⟩
    ((repeat ((conv => whnf); first | refine brT ?_ | refine brF ?_)); conv => whnf)
    rw [w1]
    refine ⟨hlen _, rfl, i, rfl, by simpa using hiL, ?_⟩
    ((repeat ((conv => whnf); first | refine brT ?_ | refine brF ?_)); conv => whnf)
    refine ⟨hlen _, by simp, _, fw_get hiL _, rfl, by simp, ?_⟩
    ((repeat ((conv => whnf); first | refine brT ?_ | refine brF ?_)); conv => whnf)
    refine ⟨hlen _, i, [2], _, rfl, fw_get2 hiL rfl, rfl, rfl, rfl, _, fw_set hiL rfl (.int .i64 (kk + 2)), ?_⟩
    ((repeat ((conv => whnf); first | refine brT ?_ | refine brF ?_)); conv => whnf)
    rw [w2]
    refine ⟨hlen _, rfl, i, rfl, by simpa using hiL, ?_⟩
    ((repeat ((conv => whnf); first | refine brT ?_ | refine brF ?_)); conv => whnf)
    refine ⟨hlen _, by simp, _, fw_get hiL _, rfl, by simp, ?_⟩
    ((repeat ((conv => whnf); first | refine brT ?_ | refine brF ?_)); conv => whnf)
    refine ⟨hlen _, i, [3], _, rfl, fw_get2 hiL rfl, rfl, rfl, rfl, _, fw_set hiL rfl (.int .i64 (kk + 3)), ?_⟩
    ((repeat ((conv => whnf); first | refine brT ?_ | refine brF ?_)); conv => whnf)
    rw [w3]
    refine ⟨hlen _, rfl, i, rfl, by simpa using hiL, ?_⟩
    ((repeat ((conv => whnf); first | refine brT ?_ | refine brF ?_)); conv => whnf)
    refine ⟨hlen _, by simp, _, fw_get hiL _, rfl, by simp, ?_⟩
    ((repeat ((conv => whnf); first | refine brT ?_ | refine brF ?_)); conv => whnf)
    refine ⟨hlen _, i, [4], _, rfl, fw_get2 hiL rfl, rfl, rfl, rfl, _, fw_set hiL rfl (.int .i64 (kk + 4)), ?_⟩
    ((repeat ((conv => whnf); first | refine brT ?_ | refine brF ?_)); conv => whnf)
    rw [w4]
    refine ⟨hlen _, rfl, i, rfl, by simpa using hiL, ?_⟩
    ((repeat ((conv => whnf); first | refine brT ?_ | refine brF ?_)); conv => whnf)
    refine ⟨hlen _, by simp, _, fw_get hiL _, rfl, by simp, ?_⟩
    ((repeat ((conv => whnf); first | refine brT ?_ | refine brF ?_)); conv => whnf)
    refine ⟨hlen _, i, [5], _, rfl, fw_get2 hiL rfl, rfl, rfl, rfl, _, fw_set hiL rfl (.int .i64 (kk + 5)), ?_⟩
    ((repeat ((conv => whnf); first | refine brT ?_ | refine brF ?_)); conv => whnf)
    have e5 : LV.hs 0 L.length = LV.hs 0 (rowPM k ps (i + 1)).length := by rw [hl, rowPM_len (by omega)]
    have e6 : LV.int .i64 (IntKind.i64.wrap (kk + 5 + 1)) = LV.int .i64 ((k + 6 * (i + 1) : Nat) : Int) := by rw [w5]
    refine round_end (i + 1) hlt (by omega) ⟨?_, ⟨congrArg (Blk.arr 57 6) hfin, trivial⟩, rfl, rfl⟩
    repeat ((conv => whnf); first | refine ⟨e, ?_⟩ | refine ⟨e6, ?_⟩ | refine ⟨e5, ?_⟩ | refine ⟨rfl, ?_⟩)
    trivial
  · have h3 : i = ps.length := by rw [ltI_f] at g1; omega
    subst h3
    ((repeat ((conv => whnf); first | refine brT ?_ | refine brF ?_)); conv => whnf)
    exact ⟨[.int .i64 ((k + 6 * ps.length : Nat) : Int)], rfl, rfl, .inl ⟨⟨rfl, trivial⟩, ⟨by simp [rowPM], trivial⟩, rfl, rfl⟩⟩
end Go.Proofs.YtbiagkccgijdlaaGreat

