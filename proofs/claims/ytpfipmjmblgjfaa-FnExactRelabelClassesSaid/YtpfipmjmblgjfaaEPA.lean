/- The types of this seat's program, as the logic of values has them. -/
import Derived.Test.YtpfipmjmblgjfaaRows
import Derived.Test.YtpfipmjmblgjfaaELgN
import Derived.KernelRfl
import Derived.Laws.RangeAny
import Derived.Test.YtpfipmjmblgjfaaELgPM
import Derived.Test.YtpfipmjmblgjfaaELgMF
namespace Go.Proofs.Ytpfipmjmblgjfaa
open Go.Lg
def tyL : List (Nat × TyI) :=
  [(3, ⟨.int .i64, 1, 8⟩),
   (4, ⟨.bool, 1, 1⟩),
   (5, ⟨.int .u8, 1, 1⟩),
   (9, ⟨.str, 1, 16⟩),
   (21, ⟨.int .i32, 1, 4⟩),
   (22, ⟨.slice 3, 1, 24⟩),
   (24, ⟨.other, 1, 8⟩),
   (29, ⟨.struct [22, 22] [0, 1], 2, 48⟩),
   (32, ⟨.struct [22, 22] [0, 1], 2, 48⟩),
   (44, ⟨.slice 154, 1, 24⟩),
   (46, ⟨.struct [3, 44] [0, 1], 2, 32⟩),
   (50, ⟨.slice 112, 1, 24⟩),
   (52, ⟨.struct [3, 50] [0, 1], 2, 32⟩),
   (59, ⟨.slice 76, 1, 24⟩),
   (61, ⟨.slice 52, 1, 24⟩),
   (63, ⟨.slice 80, 1, 24⟩),
   (76, ⟨.struct [9, 3, 3, 44, 44] [0, 1, 2, 3, 4], 5, 80⟩),
   (80, ⟨.struct [9, 3, 3, 50, 50] [0, 1, 2, 3, 4], 5, 80⟩),
   (87, ⟨.slice 9, 1, 24⟩),
   (92, ⟨.slice 5, 1, 24⟩),
   (100, ⟨.other, 1, 8⟩),
   (101, ⟨.other, 1, 8⟩),
   (104, ⟨.other, 1, 8⟩),
   (112, ⟨.struct [3, 3] [0, 1], 2, 16⟩),
   (116, ⟨.slice 32, 1, 24⟩),
   (118, ⟨.slice 22, 1, 24⟩),
   (120, ⟨.other, 1, 8⟩),
   (122, ⟨.other, 1, 8⟩),
   (132, ⟨.other, 1, 8⟩),
   (136, ⟨.other, 1, 8⟩),
   (142, ⟨.other, 1, 8⟩),
   (150, ⟨.slice 4, 1, 24⟩),
   (154, ⟨.struct [3, 3] [0, 1], 2, 16⟩),
   (166, ⟨.other, 1, 8⟩),
   (173, ⟨.struct [171, 92] [0, 1], 2, 32⟩),
   (182, ⟨.struct [] [], 0, 0⟩),
   (183, ⟨.struct [] [], 0, 0⟩),
   (184, ⟨.struct [] [], 0, 0⟩),
   (185, ⟨.other, 1, 8⟩),
   (190, ⟨.struct [92, 3, 3] [0, 1, 2], 3, 40⟩),
   (195, ⟨.other, 1, 8⟩),
   (204, ⟨.int .u64, 1, 8⟩),
   (207, ⟨.other, 1, 8⟩),
   (210, ⟨.slice 50, 1, 24⟩),
   (215, ⟨.int .u32, 1, 4⟩)]
def zL : List (Nat × LV) :=
  [(3, (.int .i64 0)),
   (4, (.bool false)),
   (5, (.int .u8 0)),
   (9, (.str ⟨#[]⟩)),
   (21, (.int .i32 0)),
   (22, .nil),
   (24, .undef),
   (29, (.st [.nil, .nil])),
   (32, (.st [.nil, .nil])),
   (44, .nil),
   (46, (.st [(.int .i64 0), .nil])),
   (50, .nil),
   (52, (.st [(.int .i64 0), .nil])),
   (59, .nil),
   (61, .nil),
   (63, .nil),
   (76, (.st [(.str ⟨#[]⟩), (.int .i64 0), (.int .i64 0), .nil, .nil])),
   (80, (.st [(.str ⟨#[]⟩), (.int .i64 0), (.int .i64 0), .nil, .nil])),
   (87, .nil),
   (92, .nil),
   (100, .undef),
   (101, .undef),
   (104, .undef),
   (112, (.st [(.int .i64 0), (.int .i64 0)])),
   (116, .nil),
   (118, .nil),
   (120, .undef),
   (122, .undef),
   (132, .undef),
   (136, .undef),
   (142, .undef),
   (150, .nil),
   (154, (.st [(.int .i64 0), (.int .i64 0)])),
   (166, .undef),
   (182, (.st [])),
   (183, (.st [])),
   (184, (.st [])),
   (185, .undef),
   (190, (.st [.nil, (.int .i64 0), (.int .i64 0)])),
   (195, .undef),
   (204, (.int .u64 0)),
   (207, .undef),
   (210, .nil),
   (215, (.int .u32 0))]
def cL : List (Nat × List (Nat × Nat)) :=
  [(112, [(3, 0), (3, 1)]),
   (154, [(3, 0), (3, 1)])]
def mL : MTab :=
  [(182, "loop.example/g03221/impl.allows", 254),
   (182, "loop.example/g03221/impl.marked", 255),
   (183, "loop.example/g03221/impl.allows", 256),
   (183, "loop.example/g03221/impl.marked", 257),
   (184, "loop.example/g03221/impl.allows", 258),
   (184, "loop.example/g03221/impl.marked", 259)]
def bL : List (Nat × Nat) := [(173, 5)]
noncomputable def env : Env := { P := Try.prog, T := lookT tyL, Z := lookT zL, C := lookT cL, M := mL, bd := bL }
theorem tyL_ok : tyL.all (fun x => tyOKB Try.prog x.1 x.2) = true := by kernel_rfl
theorem zL_ok : zL.all (fun x => zOKB Try.prog x.1 x.2) = true := by kernel_rfl
theorem cL_ok : cL.all (fun x => cmpB Try.prog x.1 x.2) = true := by kernel_rfl
theorem mL_ok : mL.all (fun x => methB Try.prog x.1 x.2.1 x.2.2) = true := by kernel_rfl
theorem bL_ok : bL.all (fun x => bdOKB Try.prog x.1) = true := by kernel_rfl
/-- What a run may lean on of its world: nothing. -/
instance gi : GI := { low := 0, F := fun _ => True, keepF := fun _ _ _ => trivial }
theorem gi_of {W : World} (h : W.ShapedOpen Try.prog) : GI.I W.heap.size W := ⟨Nat.zero_le _, trivial⟩
theorem env_ok : EnvOK env := ⟨TabOK_of tyL_ok, ZOK_of zL_ok, by kernel_rfl, COK_of cL_ok, MOK_of mL_ok, BdOK_of bL_ok⟩
end Go.Proofs.Ytpfipmjmblgjfaa

namespace Go.Proofs.Ytpfipmjmblgjfaa
open Go.Lg
set_option maxHeartbeats 400000
set_option linter.unusedVariables false
set_option linter.unusedSimpArgs false


structure Per where
  name : ByteArray
  sex : Int
  father : Int
  mother : Int
  born : Int
  died : Int
def Per.lv (p : Per) : LV := .st [.str p.name, .int .i64 p.sex, .int .i64 p.father, .int .i64 p.mother, .int .i64 p.born, .int .i64 p.died]
def Per.eq (p q : Per) : Bool := eqS p.name q.name && (eqI p.sex q.sex && (eqI p.father q.father && (eqI p.mother q.mother && (eqI p.born q.born && (eqI p.died q.died && true)))))
structure Uni where
  husband : Int
  wife : Int
  since : Int
  till : Int
def Uni.lv (p : Uni) : LV := .st [.int .i64 p.husband, .int .i64 p.wife, .int .i64 p.since, .int .i64 p.till]
def Uni.eq (p q : Uni) : Bool := eqI p.husband q.husband && (eqI p.wife q.wife && (eqI p.since q.since && (eqI p.till q.till && true)))

def eqList {α : Type} (eq : α → α → Bool) : List α → List α → Bool
  | [], [] => true
  | x :: xs, y :: ys => eq x y && eqList eq xs ys
  | _, _ => false

def eqTo {α : Type} (eq : α → α → Bool) (xs ys : List α) (k : Nat) : Prop := ∀ j x y, j < k → xs[j]? = some x → ys[j]? = some y → eq x y = true
theorem eqTo.succ {α : Type} {eq : α → α → Bool} {xs ys : List α} {k : Nat} (h : eqTo eq xs ys k) {x y : α} (hx : xs[k]? = some x) (hy : ys[k]? = some y) (e : eq x y = true) : eqTo eq xs ys (k + 1) := by
  intro j x' y' hj hx' hy'
  by_cases ej : j = k
  · subst ej
    rw [hx] at hx'
    rw [hy] at hy'
    cases hx'; cases hy'
    exact e
  · exact h j x' y' (by omega) hx' hy'
theorem eqTo.all {α : Type} {eq : α → α → Bool} : ∀ {xs ys : List α}, xs.length = ys.length → eqTo eq xs ys xs.length → eqList eq xs ys = true
  | [], [], _, _ => rfl
  | [], _ :: _, hl, _ => by simp at hl
  | _ :: _, [], hl, _ => by simp at hl
  | x :: xs, y :: ys, hl, h => by
    simp only [eqList, Bool.and_eq_true]
    refine ⟨h 0 x y (by simp) rfl rfl, eqTo.all (by simpa using hl) fun j x' y' hj hx hy => h (j + 1) x' y' (by simpa using hj) (by simpa using hx) (by simpa using hy)⟩
theorem eqList_no {α : Type} {eq : α → α → Bool} : ∀ {xs ys : List α} {k : Nat} {x y : α}, xs[k]? = some x → ys[k]? = some y → eq x y = false → eqList eq xs ys = false
  | [], _, k, _, _, h, _, _ => by simp at h
  | _ :: _, [], k, _, _, _, h, _ => by simp at h
  | a :: xs, b :: ys, 0, x, y, h1, h2, h3 => by simp at h1 h2; subst h1; subst h2; simp [eqList, h3]
  | a :: xs, b :: ys, k + 1, x, y, h1, h2, h3 => by
    simp only [eqList]
    rw [eqList_no (k := k) (by simpa using h1) (by simpa using h2) h3]
    simp
theorem eqList_len {α : Type} {eq : α → α → Bool} : ∀ {xs ys : List α}, xs.length ≠ ys.length → eqList eq xs ys = false
  | [], [], h => absurd rfl h
  | [], _ :: _, _ => rfl
  | _ :: _, [], _ => rfl
  | x :: xs, y :: ys, h => by simp only [eqList]; rw [eqList_len (by simpa using h)]; simp

def famLV (ps : List Per) (us : List Uni) : LV := .st [.sl (ps.map Per.lv), .sl (us.map Uni.lv)]

theorem eqI_len {α : Type} {xs ys : List α} {f : α → LV} (h : eqI ((xs.map f).length : Int) ((ys.map f).length : Int) = true) : xs.length = ys.length := by
  rw [eqI_t] at h; simp at h; omega
theorem eqI_nolen {α : Type} {xs ys : List α} {f : α → LV} (h : eqI ((xs.map f).length : Int) ((ys.map f).length : Int) = false) : xs.length ≠ ys.length := by
  rw [eqI_f] at h; simp at h; omega

end Go.Proofs.Ytpfipmjmblgjfaa
namespace Go.Proofs.Ytpfipmjmblgjfaa
open Go.Lg
set_option maxHeartbeats 400000
set_option maxRecDepth 10000
set_option linter.unusedVariables false
set_option linter.unusedSimpArgs false

def szPer (n : Int) (p : Per) : Int := match ltI (IntKind.i64.wrap (n - (p.name.size : Int))) 0 with | true => -1 | false => IntKind.i64.wrap (n - (p.name.size : Int))
def szUnis (n : Int) (us : List Uni) : Int := match ltI (IntKind.i64.wrap (n - (us.length : Int))) 0 with | true => -1 | false => IntKind.i64.wrap (n - (us.length : Int))
def szFold : Int → List Per → Int
  | n, [] => n
  | n, p :: ps => match ltI (szPer n p) 0 with | true => -1 | false => szFold (szPer n p) ps
def szPers (n : Int) (ps : List Per) : Int := match ltI (IntKind.i64.wrap (n - (ps.length : Int))) 0 with | true => -1 | false => szFold (IntKind.i64.wrap (n - (ps.length : Int))) ps

def szFam (n : Int) (ps : List Per) (us : List Uni) : Int := match ltI (szPers n ps) 0 with
  | true => -1
  | false => match ltI (szUnis (szPers n ps) us) 0 with | true => -1 | false => szUnis (szPers n ps) us
end Go.Proofs.Ytpfipmjmblgjfaa
namespace Go.Proofs.Ytpfipmjmblgjfaa
open Go.Lg
set_option maxHeartbeats 400000
set_option maxRecDepth 10000
set_option linter.unusedVariables false
set_option linter.unusedSimpArgs false

def eqFam (ps qs : List Per) (us vs : List Uni) : Bool := eqList Per.eq ps qs && eqList Uni.eq us vs
/-- A row that is filled from its head. -/
def fillLV {α : Type} (lv : α → LV) (z : LV) (ps : List α) (k : Nat) : List LV := (ps.take k).map lv ++ List.replicate (ps.length - k) z
theorem fill_len {α : Type} {lv : α → LV} {z : LV} {ps : List α} {k : Nat} (h : k ≤ ps.length) : (fillLV lv z ps k).length = ps.length := by simp [fillLV]; omega
theorem fill_get {α : Type} {lv : α → LV} {z : LV} {ps : List α} {k : Nat} (h : k < ps.length) : (fillLV lv z ps k)[k]? = some z := by
  unfold fillLV
  rw [List.getElem?_append_right (by simp; omega)]
  have : k - ((ps.take k).map lv).length = 0 := by simp; omega
  rw [this]
  have h2 : ps.length - k = (ps.length - k - 1) + 1 := by omega
  rw [h2, List.replicate_succ]
  rfl
theorem fill_set {α : Type} {lv : α → LV} {z : LV} {ps : List α} {k : Nat} (h : k < ps.length) : (fillLV lv z ps k).set k (lv ps[k]) = fillLV lv z ps (k + 1) := by
  apply List.ext_getElem?
  intro j
  unfold fillLV
  rw [List.getElem?_set]
  by_cases e : k = j
  · subst e
    have hl : k < ((ps.take k).map lv ++ List.replicate (ps.length - k) z).length := by simp; omega
    rw [if_pos rfl, if_pos hl, List.getElem?_append_left (by simp; omega)]
    simp [h]
  · rw [if_neg e]
    by_cases hj : j < k
    · rw [List.getElem?_append_left (by simp; omega), List.getElem?_append_left (by simp; omega)]
      simp [hj, show j < k + 1 by omega]
    · rw [List.getElem?_append_right (by simp; omega), List.getElem?_append_right (by simp; omega)]
      have e1 : ((ps.take k).map lv).length = k := by simp; omega
      have e2 : ((ps.take (k + 1)).map lv).length = k + 1 := by simp; omega
      rw [e1, e2]
      by_cases hj2 : j < ps.length
      · rw [List.getElem?_replicate, List.getElem?_replicate, if_pos (by omega), if_pos (by omega)]
      · rw [List.getElem?_replicate, List.getElem?_replicate, if_neg (by omega), if_neg (by omega)]
theorem fill_all {α : Type} {lv : α → LV} {z : LV} {ps : List α} : fillLV lv z ps ps.length = ps.map lv := by simp [fillLV]

def zPer : LV := .st [.str ⟨#[]⟩, .int .i64 0, .int .i64 0, .int .i64 0, .int .i64 0, .int .i64 0]
def zUni : LV := .st [.int .i64 0, .int .i64 0, .int .i64 0, .int .i64 0]
end Go.Proofs.Ytpfipmjmblgjfaa
namespace Go.Proofs.Ytpfipmjmblgjfaa
open Go.Lg
set_option maxHeartbeats 400000
set_option maxRecDepth 10000
set_option linter.unusedVariables false
set_option linter.unusedSimpArgs false

structure FamOK (ps : List Per) (us : List Uni) : Prop where
  p : ps.length ≤ Go.maxLen
  u : us.length ≤ Go.maxLen
  n : ∀ p ∈ ps, p.name.size ≤ Go.maxLen

theorem wrap_sub {n : Int} {k : Nat} (h0 : 0 ≤ n) (h1 : n ≤ 1048576) (hk : k ≤ Go.maxLen) : IntKind.i64.wrap (n - (k : Int)) = n - k := by
  unfold Go.maxLen at hk
  exact wrap64 (by omega) (by omega)
theorem szPer_le {n : Int} {p : Per} (h0 : 0 ≤ n) (h1 : n ≤ 1048576) (hp : p.name.size ≤ Go.maxLen) : szPer n p ≤ n := by
  unfold szPer
  rw [wrap_sub h0 h1 hp]
  split <;> omega
theorem szFold_le : ∀ {ps : List Per} {n : Int}, 0 ≤ n → n ≤ 1048576 → (∀ p ∈ ps, p.name.size ≤ Go.maxLen) → szFold n ps ≤ n
  | [], n, _, _, _ => Int.le_refl n
  | p :: ps, n, h0, h1, h => by
    have h2 := szPer_le h0 h1 (h p (by simp))
    unfold szFold
    split
    · omega
    · rename_i hh
      rw [ltI_f] at hh
      have := szFold_le (ps := ps) hh (by omega) (fun q hq => h q (List.mem_cons_of_mem _ hq))
      omega
theorem szPers_ok {ps : List Per} {n : Int} (h0 : 0 ≤ n) (h1 : n ≤ 1048576) (hl : ps.length ≤ Go.maxLen) (h : ∀ p ∈ ps, p.name.size ≤ Go.maxLen) (hk : 0 ≤ szPers n ps) : (ps.length : Int) ≤ n ∧ szPers n ps ≤ n := by
  unfold szPers at hk ⊢
  rw [wrap_sub h0 h1 hl] at hk ⊢
  split at hk
  · omega
  · rename_i hh
    rw [ltI_f] at hh
    have := szFold_le hh (by omega) h
    exact ⟨by omega, by omega⟩
theorem szUnis_ok {us : List Uni} {n : Int} (h0 : 0 ≤ n) (h1 : n ≤ 1048576) (hl : us.length ≤ Go.maxLen) (hk : 0 ≤ szUnis n us) : (us.length : Int) ≤ n ∧ szUnis n us ≤ n := by
  unfold szUnis at hk ⊢
  rw [wrap_sub h0 h1 hl] at hk ⊢
  split at hk
  · omega
  · rename_i hh
    rw [ltI_f] at hh
    exact ⟨by omega, by omega⟩
theorem szFam_ok {ps : List Per} {us : List Uni} {n : Int} (h0 : 0 ≤ n) (h1 : n ≤ 1048576) (hf : FamOK ps us) (hk : 0 ≤ szFam n ps us) :
    56 * ps.length ≤ 281474976710656 ∧ 32 * us.length ≤ 281474976710656 ∧ szFam n ps us ≤ n := by
  unfold szFam at hk ⊢
  split at hk
  · omega
  · rename_i hh
    rw [ltI_f] at hh
    obtain ⟨a1, a2⟩ := szPers_ok h0 h1 hf.p hf.n hh
    split at hk
    · omega
    · rename_i h3
      rw [ltI_f] at h3
      obtain ⟨b1, b2⟩ := szUnis_ok hh (by omega) hf.u h3
      exact ⟨by omega, by omega, by omega⟩

theorem eqS_refl (s : ByteArray) : eqS s s = true := by unfold eqS; simp
theorem eqI_refl (n : Int) : eqI n n = true := by unfold eqI; simp
theorem Per.eq_refl (p : Per) : p.eq p = true := by simp [Per.eq, eqS_refl, eqI_refl]
theorem Uni.eq_refl (p : Uni) : p.eq p = true := by simp [Uni.eq, eqI_refl]
theorem eqList_refl {α : Type} {eq : α → α → Bool} (h : ∀ x, eq x x = true) : ∀ xs, eqList eq xs xs = true
  | [] => rfl
  | x :: xs => by simp [eqList, h x, eqList_refl h xs]
theorem eqFam_refl (ps : List Per) (us : List Uni) : eqFam ps ps us us = true := by simp [eqFam, eqList_refl Per.eq_refl, eqList_refl Uni.eq_refl]

end Go.Proofs.Ytpfipmjmblgjfaa
namespace Go.Proofs.Ytpfipmjmblgjfaa
open Go.Lg
set_option maxHeartbeats 400000
set_option maxRecDepth 10000
set_option linter.unusedVariables false
set_option linter.unusedSimpArgs false

/-- impl.isEndYear -/
def endYear (y b : Int) : Bool := eqI y (-1) || (leI b y && leI y 9999)
/-- impl.livedTo -/
def livedTo (p : Per) (y : Int) : Bool := eqI p.died (-1) || leI y p.died
/-- impl.isParentOf -/
def parentOk (ps : List Per) (x sex born : Int) : Bool :=
  eqI x (-1) || (leI 0 x && match ps[x.toNat]? with
    | none => false
    | some q => eqI q.sex sex && (ltI q.born born && (match eqI sex 1 with | true => livedTo q (IntKind.i64.wrap (born - 1)) | false => livedTo q born)))
end Go.Proofs.Ytpfipmjmblgjfaa
namespace Go.Proofs.Ytpfipmjmblgjfaa
open Go.Lg
set_option maxHeartbeats 400000
set_option maxRecDepth 10000
set_option linter.unusedVariables false
set_option linter.unusedSimpArgs false

/-- The first of that name. -/
def findFrom (n : ByteArray) : Nat → List Per → Option Nat
  | _, [] => none
  | i, p :: ps => match eqS p.name n with | true => some i | false => findFrom n (i + 1) ps
def foundLV : Option Nat → LV
  | some i => .tup [.int .i64 (i : Int), .bool true]
  | none => .tup [.int .i64 0, .bool false]

end Go.Proofs.Ytpfipmjmblgjfaa
namespace Go.Proofs.Ytpfipmjmblgjfaa
open Go.Lg
set_option maxHeartbeats 400000
set_option linter.unusedVariables false
set_option linter.unusedSimpArgs false

theorem l1In_spec (x a b : Int) : FSpec env.P 104 [.int .i64 x, .int .i64 a, .int .i64 b] (.bool (leI a x && leI x b)) := by
  refine FSpec_of_code env_ok (fn := Try.f104) Try.func104 rfl Try.call104 _ _ ?_
  conv => whnf
  refine ⟨fun h => ?_, fun h => ?_⟩ <;> rw [h] <;> conv => whnf
  · repeat (refine brT ?_; conv => whnf)
    exact fin rfl
  · repeat (refine brF ?_; conv => whnf)
    exact fin rfl

def low (c : UInt8) : Bool := !(ltI (c.toNat : Int) 97 || ltI 122 (c.toNat : Int))
def lowTo (s : ByteArray) (k : Nat) : Prop := ∀ j (h : j < s.size), j < k → low s[j] = true
def allLow (s : ByteArray) : Bool := s.data.toList.all low
def isName (s : ByteArray) : Bool := allLow s && (leI 1 (s.size : Int) && leI (s.size : Int) 12)

theorem lowTo.succ {s : ByteArray} {k : Nat} (h : lowTo s k) (hk : k < s.size) (hl : low s[k] = true) : lowTo s (k + 1) := by
  intro j hj hjk
  by_cases e : j = k
  · subst e; exact hl
  · exact h j hj (by omega)
theorem lowTo.all {s : ByteArray} {k : Nat} (h : lowTo s k) (hk : s.size ≤ k) : allLow s = true := by
  unfold allLow
  rw [List.all_eq_true]
  intro c hc
  obtain ⟨j, hj, rfl⟩ := List.mem_iff_getElem.1 hc
  have hj' : j < s.size := by simpa using hj
  exact h j hj' (by omega)
theorem isName_no {s : ByteArray} {k : Nat} (hk : k < s.size) (hl : low s[k] = false) : isName s = false := by
  have : allLow s = false := by
    unfold allLow
    rw [List.all_eq_false]
    exact ⟨s[k], by exact Array.getElem_mem_toList _, by simp [hl]⟩
  unfold isName; rw [this]; rfl

theorem isName_spec (s : ByteArray) : FSpec env.P 191 [.str s] (.bool (isName s)) := by
  refine FSpec_of_code env_ok (fn := Try.f191) Try.func191 rfl Try.call191 _ _ ?_
  conv => whnf
  refine loop_rule (α := Nat) (fun k => [(3, .int .i64 (k : Int))]) (fun _ => []) (fun k => s.size - k) (fun k => k ≤ s.size ∧ lowTo s k) 0 ⟨Nat.zero_le _, fun _ _ h => absurd h (Nat.not_lt_zero _)⟩ ?_ ?_
  · refine ⟨?_, trivial, rfl, rfl⟩
    repeat ((conv => whnf); refine ⟨rfl, ?_⟩)
    trivial
  · rintro k ⟨hk, hlow⟩
    conv => whnf
    intro hs
    conv => whnf
    refine ⟨fun h => ?_, fun h => ?_⟩
    · rw [h]
      have hlt : k < s.size := by rw [ltI_t] at h; omega
      conv => whnf
      refine ⟨k, hlt, rfl, ?_⟩
      conv => whnf
      refine ⟨fun h1 => ?_, fun h1 => ?_⟩
      · rw [h1]
        have hno : false = isName s := (isName_no hlt (by simp [low, h1])).symm
        repeat ((conv => whnf); first | refine brT ?_ | refine brF ?_)
        exact fin hno
      · rw [h1]
        repeat ((conv => whnf); first | refine brT ?_ | refine brF ?_)
        refine ⟨k, hlt, rfl, ?_⟩
        repeat ((conv => whnf); first | refine brT ?_ | refine brF ?_)
        refine ⟨fun h2 => ?_, fun h2 => ?_⟩
        · rw [h2]
          have hno : false = isName s := (isName_no hlt (by simp [low, h1, h2])).symm
          repeat ((conv => whnf); first | refine brT ?_ | refine brF ?_)
          exact fin hno
        · rw [h2]
          have hl := hlow.succ hlt (by simp [low, h1, h2])
          conv => whnf
          refine round_end (k + 1) ⟨hlt, hl⟩ (by omega) ⟨?_, trivial, rfl, rfl⟩
          have e := step_i hlt hs
          repeat ((conv => whnf); first | refine ⟨e, ?_⟩ | refine ⟨rfl, ?_⟩)
          trivial
    · rw [h]
      rw [ltI_f] at h
      conv => whnf
      intro _
      conv => whnf
      refine ⟨_, l1In_spec _ _ _, ?_⟩
      conv => whnf
      refine fin ?_
      unfold isName
      rw [hlow.all (by omega)]
      rfl
end Go.Proofs.Ytpfipmjmblgjfaa

namespace Go.Proofs.Ytpfipmjmblgjfaa
open Go.Lg
set_option maxHeartbeats 800000
set_option maxRecDepth 10000
set_option linter.unusedVariables false
set_option linter.unusedSimpArgs false

def iLV (n : Int) : LV := .int .i64 n
/-- k, k + 1, .. -/
def marks (k : Int) : Nat → List Int
  | 0 => []
  | n + 1 => marks k n ++ [k + n]
theorem marks_len (k : Int) : ∀ n, (marks k n).length = n
  | 0 => rfl
  | n + 1 => by simp [marks, marks_len k n]
theorem marks_get (k : Int) : ∀ (n i : Nat) (h : i < (marks k n).length), (marks k n)[i] = k + i
  | 0, i, h => by simp [marks] at h
  | n + 1, i, h => by
    simp only [marks]
    have hl := marks_len k n
    by_cases hi : i < n
    · rw [List.getElem_append_left (by omega)]
      exact marks_get k n i (by omega)
    · rw [List.getElem_append_right (by omega)]
      have : i = n := by simp [marks, hl] at h; omega
      subst this
      simp

def rowM (k : Int) (xs : List Int) (i : Nat) : List LV := (marks k i ++ xs.drop i).map iLV
theorem rowM_len {k : Int} {xs : List Int} {i : Nat} (h : i ≤ xs.length) : (rowM k xs i).length = xs.length := by simp [rowM, marks_len]; omega
theorem rowM_get {k : Int} {xs : List Int} {i : Nat} (h : i < xs.length) : (rowM k xs i)[i]? = some (.int .i64 xs[i]) := by
  unfold rowM
  rw [List.getElem?_map, List.getElem?_append_right (by rw [marks_len]; exact Nat.le_refl _), marks_len, Nat.sub_self, List.getElem?_drop, Nat.add_zero, List.getElem?_eq_getElem h]
  rfl
theorem rowM_set {k : Int} {xs : List Int} {i : Nat} (h : i < xs.length) : (rowM k xs i).set i (.int .i64 (k + i)) = rowM k xs (i + 1) := by
  unfold rowM
  rw [List.drop_eq_getElem_cons h, List.map_append, List.map_cons, List.set_append_right _ _ (by simp [marks_len])]
  simp [marks, marks_len, iLV]

/-- laws.markText -/
def digits (n : Nat) (acc : ByteArray) : ByteArray := if h : n = 0 then acc else digits (n / 10) (bytesOf [IntKind.u8.wrap (IntKind.i64.wrap (48 + (n : Int).tmod 10))] ++ acc)
termination_by n
decreasing_by omega
def mText (k : Nat) : ByteArray := if k = 0 then ⟨#[109, 48]⟩ else ⟨#[109]⟩ ++ digits k ⟨#[]⟩
theorem bytesOf1_size (n : Int) : (bytesOf [n]).size = 1 := by unfold bytesOf; rw [bytesOf_size]; rfl
theorem digits_zero (acc : ByteArray) : digits 0 acc = acc := by rw [digits]; simp
theorem digits_pos {n : Nat} (h : 0 < n) (acc : ByteArray) : digits n acc = digits (n / 10) (bytesOf [IntKind.u8.wrap (IntKind.i64.wrap (48 + (n : Int).tmod 10))] ++ acc) := by
  rw [digits, dif_neg (by omega)]
theorem markText_spec (k : Nat) (hk : k ≤ 4611686018427387904) : FSpec env.P 136 [.int .i64 (k : Int)] (.str (mText k)) := by
  refine FSpec_of_code env_ok (fn := Try.f136) Try.func136 rfl Try.call136 _ _ ?_
  ((repeat ((conv => whnf); first | refine brT ?_ | refine brF ?_)); conv => whnf)
  (refine ⟨fun h => ?_, fun h => ?_⟩ <;> rw [h])
  · have : k = 0 := by rw [leI_t] at h; omega
    subst this
    ((repeat ((conv => whnf); first | refine brT ?_ | refine brF ?_)); conv => whnf)
    exact fin (by simp [mText])
  have hpos : 0 < k := by rw [leI_f] at h; omega
  ((repeat ((conv => whnf); first | refine brT ?_ | refine brF ?_)); conv => whnf)
  refine loop_rule (α := Nat × ByteArray) (fun x => [(0, .int .i64 (x.1 : Int)), (3, .str x.2)]) (fun x => []) (fun x => x.1) (fun x => digits x.1 x.2 = digits k ⟨#[]⟩ ∧ 10 ^ x.2.size * x.1 ≤ k ∧ x.1 ≤ k ∧ x.2.size ≤ 20) (k, ⟨#[]⟩) ⟨rfl, by simp [ByteArray.size], Nat.le_refl _, by simp [ByteArray.size]⟩ ?_ ?_
  · refine ⟨?_, trivial, rfl, rfl⟩
    ((repeat ((conv => whnf); refine ⟨rfl, ?_⟩)); trivial)
  rintro ⟨n, acc⟩ ⟨h1, h2, h3, h4⟩
  ((repeat ((conv => whnf); first | refine brT ?_ | refine brF ?_)); conv => whnf)
  (refine ⟨fun g1 => ?_, fun g1 => ?_⟩ <;> rw [g1])
  · have hn : 0 < n := by rw [ltI_t] at g1; omega
    have hs : acc.size ≤ 18 := by
      have h5 : 10 ^ acc.size ≤ k := Nat.le_trans (Nat.le_mul_of_pos_right _ hn) h2
      rcases Nat.lt_or_ge acc.size 19 with h | h
      · omega
      · have h6 : 10 ^ 19 ≤ 10 ^ acc.size := Nat.pow_le_pow_right (by decide) h
        have h7 : (10 : Nat) ^ 19 = 10000000000000000000 := by decide
        omega
    ((repeat ((conv => whnf); first | refine brT ?_ | refine brF ?_)); conv => whnf)
    refine ⟨by decide, ?_⟩
    ((repeat ((conv => whnf); first | refine brT ?_ | refine brF ?_)); conv => whnf)
    refine ⟨rfl, [IntKind.u8.wrap (IntKind.i64.wrap (48 + (n : Int).tmod 10))], rfl, ?_⟩
    ((repeat ((conv => whnf); first | refine brT ?_ | refine brF ?_)); conv => whnf)
    refine ⟨by rw [bytesOf1_size]; unfold Go.maxLen; omega, ?_⟩
    ((repeat ((conv => whnf); first | refine brT ?_ | refine brF ?_)); conv => whnf)
    refine ⟨by decide, ?_⟩
    have e : LV.int .i64 (IntKind.i64.wrap ((n : Int).tdiv 10)) = LV.int .i64 ((n / 10 : Nat) : Int) := by
      rw [show (n : Int).tdiv 10 = ((n / 10 : Nat) : Int) by rw [Int.tdiv_eq_ediv_of_nonneg (by omega)]; omega, wrap64 (by omega) (by omega)]
    ((repeat ((conv => whnf); first | refine brT ?_ | refine brF ?_)); conv => whnf)
    refine round_end (n / 10, bytesOf [IntKind.u8.wrap (IntKind.i64.wrap (48 + (n : Int).tmod 10))] ++ acc) ⟨by rw [← h1, digits_pos hn], ?_, by omega, ?_⟩ (by show n / 10 < n; omega) ⟨?_, trivial, rfl, rfl⟩
    · show 10 ^ (bytesOf [IntKind.u8.wrap (IntKind.i64.wrap (48 + (n : Int).tmod 10))] ++ acc).size * (n / 10) ≤ k
      rw [ByteArray.size_append, bytesOf1_size, Nat.add_comm, Nat.pow_succ]
      refine Nat.le_trans ?_ h2
      rw [Nat.mul_assoc]
      exact Nat.mul_le_mul_left _ (Nat.mul_div_le n 10)
    · show (bytesOf [IntKind.u8.wrap (IntKind.i64.wrap (48 + (n : Int).tmod 10))] ++ acc).size ≤ 20
      rw [ByteArray.size_append, bytesOf1_size]; omega
    · ((repeat ((conv => whnf); first | refine ⟨e, ?_⟩ | refine ⟨rfl, ?_⟩)); trivial)
  · have hn : n = 0 := by rw [ltI_f] at g1; omega
    subst hn
    rw [digits_zero] at h1
    ((repeat ((conv => whnf); first | refine brT ?_ | refine brF ?_)); conv => whnf)
    refine ⟨by have h5 : acc.size ≤ 20 := h4; unfold Go.maxLen; show 1 + acc.size ≤ _; omega, ?_⟩
    ((repeat ((conv => whnf); first | refine brT ?_ | refine brF ?_)); conv => whnf)
    refine fin ?_
    unfold mText
    rw [if_neg (by omega), ← h1]
end Go.Proofs.Ytpfipmjmblgjfaa

namespace Go.Proofs.Ytpfipmjmblgjfaa
open Go.Lg
set_option maxHeartbeats 400000
set_option maxRecDepth 10000
set_option linter.unusedVariables false
set_option linter.unusedSimpArgs false

theorem decode_low (s : ByteArray) (pos : Nat) (h : pos < s.size) :
    (low s[pos] = true ∧ Utf8.decode s pos = (s[pos].toNat, 1) ∧ ltI (s[pos].toNat : Int) 97 = false ∧ ltI 122 (s[pos].toNat : Int) = false) ∨
    (low s[pos] = false ∧ (ltI ((Utf8.decode s pos).1 : Int) 97 || ltI 122 ((Utf8.decode s pos).1 : Int)) = true) := by
  by_cases ha : (s[pos]'h).toNat < 128
  · have e := decode_ascii s pos h ha
    by_cases hl : low s[pos] = true
    · have := hl
      simp only [low, Bool.not_eq_true', Bool.or_eq_false_iff] at this
      exact .inl ⟨hl, e, this.1, this.2⟩
    · have hl' : low s[pos] = false := by simpa using hl
      refine .inr ⟨hl', ?_⟩
      rw [e]
      unfold low at hl'
      simpa only [Bool.not_eq_false'] using hl'
  · have e := (decode_high s pos h (by omega)).1
    refine .inr ⟨?_, ?_⟩
    · unfold low ltI; simp; omega
    · unfold ltI; simp; omega

/-- impl.IsName -/
theorem isNameImpl_spec (s : ByteArray) : FSpec env.P 193 [.str s] (.bool (isName s)) := by
  refine FSpec_of_code env_ok (fn := Try.f193) Try.func193 rfl Try.call193 _ _ ?_
  ((repeat ((conv => whnf); first | refine brT ?_ | refine brF ?_)); conv => whnf)
  intro hs
  ((repeat ((conv => whnf); first | refine brT ?_ | refine brF ?_)); conv => whnf)
  (refine ⟨fun h => ?_, fun h => ?_⟩ <;> rw [h])
  · ((repeat ((conv => whnf); first | refine brT ?_ | refine brF ?_)); conv => whnf)
    refine fin ?_
    rw [eqI_t] at h
    have h0 : leI 1 (s.size : Int) = false := by rw [leI_f]; omega
    simp [isName, h0]
  rw [eqI_f] at h
  have h0 : leI 1 (s.size : Int) = true := by rw [leI_t]; omega
  ((repeat ((conv => whnf); first | refine brT ?_ | refine brF ?_)); conv => whnf)
  intro _
  ((repeat ((conv => whnf); first | refine brT ?_ | refine brF ?_)); conv => whnf)
  (refine ⟨fun h1 => ?_, fun h1 => ?_⟩ <;> rw [h1])
  · ((repeat ((conv => whnf); first | refine brT ?_ | refine brF ?_)); conv => whnf)
    refine fin ?_
    have h2 : leI (s.size : Int) 12 = false := by rw [leI_f]; rw [ltI_t] at h1; exact h1
    simp [isName, h2]
  have h2 : leI (s.size : Int) 12 = true := by rw [leI_t]; rw [ltI_f] at h1; exact h1
  ((repeat ((conv => whnf); first | refine brT ?_ | refine brF ?_)); conv => whnf)
  refine loop_rule (α := Nat) (fun k => []) (fun k => [.it s k]) (fun k => s.size - k) (fun k => k ≤ s.size ∧ lowTo s k) 0 ⟨Nat.zero_le _, fun _ _ h => absurd h (Nat.not_lt_zero _)⟩ ?_ ?_
  · refine ⟨?_, ⟨rfl, trivial⟩, rfl, rfl⟩
    ((repeat ((conv => whnf); refine ⟨rfl, ?_⟩)); trivial)
  rintro k ⟨hk, hlow⟩
  ((repeat ((conv => whnf); first | refine brT ?_ | refine brF ?_)); conv => whnf)
  refine ⟨fun hlt => ?_, fun hge => ?_⟩
  · rcases decode_low s k hlt with ⟨hl, hd, hd1, hd2⟩ | ⟨hl, hd⟩
    · rw [hd]
      ((repeat ((conv => whnf); first | refine brT ?_ | refine brF ?_)); conv => whnf)
      rw [hd1]
      ((repeat ((conv => whnf); first | refine brT ?_ | refine brF ?_)); conv => whnf)
      rw [hd2]
      ((repeat ((conv => whnf); first | refine brT ?_ | refine brF ?_)); conv => whnf)
      refine round_end (k + 1) ⟨hlt, hlow.succ hlt hl⟩ (by omega) ⟨?_, ⟨rfl, trivial⟩, rfl, rfl⟩
      ((repeat ((conv => whnf); refine ⟨rfl, ?_⟩)); trivial)
    · have hno : false = isName s := (isName_no hlt hl).symm
      generalize Utf8.decode s k = d at hd ⊢
      ((repeat ((conv => whnf); first | refine brT ?_ | refine brF ?_)); conv => whnf)
      (refine ⟨fun h3 => ?_, fun h3 => ?_⟩ <;> rw [h3])
      · ((repeat ((conv => whnf); first | refine brT ?_ | refine brF ?_)); conv => whnf); exact fin hno
      · ((repeat ((conv => whnf); first | refine brT ?_ | refine brF ?_)); conv => whnf)
        rw [h3, Bool.false_or] at hd
        rw [hd]
        ((repeat ((conv => whnf); first | refine brT ?_ | refine brF ?_)); conv => whnf); exact fin hno
  · ((repeat ((conv => whnf); first | refine brT ?_ | refine brF ?_)); conv => whnf)
    refine fin ?_
    rw [isName, hlow.all (by omega), h0, h2]
    rfl

/-- impl.isOfSex -/
def ofSex (ps : List Per) (x sex : Int) : Bool := leI 0 x && match ps[x.toNat]? with | some q => eqI q.sex sex | none => false
/-- impl.isUnited -/
def unitedOf (m f : Int) (u : Uni) : Bool := eqI u.husband m && eqI u.wife f
/-- The first place where it holds. -/
def idxFrom {α : Type} (q : α → Bool) : Nat → List α → Int
  | _, [] => -1
  | i, p :: ps => match q p with | true => (i : Int) | false => idxFrom q (i + 1) ps
theorem idxFrom_ge {α : Type} (q : α → Bool) : ∀ (i : Nat) (ps : List α), leI 0 (idxFrom q i ps) = ps.any q
  | _, [] => by simp [idxFrom, leI]
  | i, p :: ps => by
    simp only [idxFrom, List.any_cons]
    cases h : q p
    · simpa using idxFrom_ge q (i + 1) ps
    · simp [leI]

/-- impl.knownParents -/
def notNone (x : Int) : Bool := notB (eqI x (-1))
def known (p : Per) : List Int := [p.father, p.mother].filter notNone
def intLV (n : Int) : LV := .int .i64 n
def knownTo (p : Per) (k : Nat) : List Int := ([p.father, p.mother].take k).filter notNone
theorem knownTo_succ (p : Per) (k : Nat) (h : k < 2) : knownTo p (k + 1) = knownTo p k ++ (if notNone ([p.father, p.mother][k]'h) then [[p.father, p.mother][k]'h] else []) := by
  unfold knownTo
  rw [List.take_succ_eq_append_getElem h, List.filter_append]
  congr 1
  simp [List.filter]
  split <;> simp_all
theorem knownTo_len (p : Per) (k : Nat) : (knownTo p k).length ≤ 2 := by
  unfold knownTo
  refine Nat.le_trans (List.length_filter_le _ _) ?_
  simp; omega
end Go.Proofs.Ytpfipmjmblgjfaa
namespace Go.Proofs.Ytpfipmjmblgjfaa
open Go.Lg
set_option maxHeartbeats 1600000
set_option maxRecDepth 10000
set_option linter.unusedVariables false
set_option linter.unusedSimpArgs false

/-- Rows of integers, lent. -/
def rowSl (r : List Int) : LV := .sl (r.map intLV)
/-- Rows of integers, owned. -/
def rowOw (r : List Int) : LV := .own 3 1 (r.map intLV)
theorem dms_rows : ∀ rows : List (List Int), dms (rows.map rowOw) = rows.map rowSl
  | [] => rfl
  | r :: rs => by simp only [List.map_cons, dms, dms_rows rs]; rfl

/-- laws.szIntS -/
def szN (l : Int) (n : Nat) : Int := match ltI (IntKind.i64.wrap (l - (n : Int))) 0 with | true => -1 | false => IntKind.i64.wrap (l - (n : Int))
def szRs : Int → List (List Int) → Int
  | l, [] => l
  | l, r :: rs => match ltI (szN l r.length) 0 with | true => -1 | false => szRs (szN l r.length) rs
def szRows (l : Int) (rows : List (List Int)) : Int := match ltI (szN l rows.length) 0 with | true => -1 | false => szRs (szN l rows.length) rows

def relLV (n : Int) (rows : List (List Int)) : LV := .st [.int .i64 n, .sl (rows.map rowSl)]
end Go.Proofs.Ytpfipmjmblgjfaa
namespace Go.Proofs.Ytpfipmjmblgjfaa
open Go.Lg
set_option maxHeartbeats 1600000
set_option maxRecDepth 10000
set_option linter.unusedVariables false
set_option linter.unusedSimpArgs false

theorem eqIntS_refl (xs : List Int) : eqList eqI xs xs = true := eqList_refl eqI_refl xs

theorem flats_ints : ∀ xs : List Int, flatsB (xs.map intLV) = true
  | [] => rfl
  | x :: xs => by simp [flatsB, flatB, intLV]; exact flats_ints xs
theorem flat_ints (xs : List Int) : flatT (.own 3 1 (xs.map intLV)) = true := by simp [flatT, flatB, flats_ints]

end Go.Proofs.Ytpfipmjmblgjfaa

namespace Go.Proofs.Ytpfipmjmblgjfaa
open Go.Lg
set_option maxHeartbeats 1600000
set_option maxRecDepth 10000
set_option linter.unusedVariables false
set_option linter.unusedSimpArgs false

/-- Rows that may be laid out again. -/
structure RowsOK (rows : List (List Int)) : Prop where
  n : 24 * rows.length ≤ 281474976710656
  each : ∀ r ∈ rows, 8 * r.length ≤ 281474976710656

def relHS (n : Int) (a m : Nat) : LV := .st [.int .i64 n, .hs a m]
def eqRel (n : Int) (ps : List (List Int)) (m : Int) (qs : List (List Int)) : Bool := eqI n m && eqList (eqList eqI) ps qs
theorem eqRows_refl (rows : List (List Int)) : eqList (eqList eqI) rows rows = true := eqList_refl eqIntS_refl rows
theorem eqRel_refl (n : Int) (rows : List (List Int)) : eqRel n rows n rows = true := by simp [eqRel, eqI_refl, eqRows_refl]
end Go.Proofs.Ytpfipmjmblgjfaa

namespace Go.Proofs.Ytpfipmjmblgjfaa
open Go.Lg
set_option maxHeartbeats 1600000
set_option maxRecDepth 10000
set_option linter.unusedVariables false
set_option linter.unusedSimpArgs false

theorem markIntS_spec (xs : List Int) (n : Nat) (hn : n = (xs.map iLV).length) (k : Int) (h0 : 0 ≤ k) (h1 : k + xs.length ≤ 4611686018427387904) :
    HSpec env.P 30 [.hs 0 n, .int .i64 k] [.arr 3 1 (xs.map iLV)] (.int .i64 (k + xs.length)) [.arr 3 1 ((marks k xs.length).map iLV)] := by
  subst hn
  refine HSpec_of_code (E := env.x [] 1) env_ok.x (fn := Try.f30) Try.func30 rfl Try.call30 _ _ _ _ ?_
  ((repeat ((conv => whnf); first | refine brT ?_ | refine brF ?_)); conv => whnf)
  refine loop_rule (α := Nat) (fun i => [(5, .int .i64 (i : Int)), (1, .int .i64 (k + i)), (0, .hs 0 (rowM k xs i).length)]) (fun i => [.arr 3 1 (rowM k xs i)]) (fun i => xs.length - i) (fun i => i ≤ xs.length) 0 (Nat.zero_le _) ?_ ?_
  · have e0 : xs.map iLV = rowM k xs 0 := by simp [rowM, marks]
    have e1 : LV.hs 0 (xs.map iLV).length = LV.hs 0 (rowM k xs 0).length := by rw [e0]
    have e2 : LV.int .i64 k = LV.int .i64 (k + ((0 : Nat) : Int)) := by simp
    refine ⟨?_, ⟨congrArg (Blk.arr 3 1) e0, trivial⟩, rfl, rfl⟩
    repeat ((conv => whnf); first | refine ⟨e1, ?_⟩ | refine ⟨e2, ?_⟩ | refine ⟨rfl, ?_⟩)
    trivial
  intro i hi
  have hl := rowM_len (k := k) hi
  ((repeat ((conv => whnf); first | refine brT ?_ | refine brF ?_)); conv => whnf)
  refine ⟨rfl, fun hm => ?_⟩
  have hm' : xs.length ≤ Go.maxLen := by rw [← hl]; exact hm
  ((repeat ((conv => whnf); first | refine brT ?_ | refine brF ?_)); conv => whnf)
  (refine ⟨fun g1 => ?_, fun g1 => ?_⟩ <;> rw [g1])
  · have hlt : i < xs.length := by rw [ltI_t] at g1; omega
    have e := step_i hlt hm'
    have e4 : LV.int .i64 (IntKind.i64.wrap (k + i + 1)) = LV.int .i64 (k + ((i + 1 : Nat) : Int)) := by
      rw [wrap64 (by omega) (by omega)]; congr 1; omega
    have e5 : LV.hs 0 (rowM k xs i).length = LV.hs 0 (rowM k xs (i + 1)).length := by rw [hl, rowM_len (by omega)]
    ((repeat ((conv => whnf); first | refine brT ?_ | refine brF ?_)); conv => whnf)
    refine ⟨rfl, rfl, i, rfl, by omega, ?_⟩
    ((repeat ((conv => whnf); first | refine brT ?_ | refine brF ?_)); conv => whnf)
    refine ⟨rfl, i, [], .int .i64 xs[i], rfl, by simp [getP, rowM_get hlt], rfl, rfl, rfl, rowM k xs (i + 1), by rw [rowM_get hlt]; exact rowM_set hlt, ?_⟩
    ((repeat ((conv => whnf); first | refine brT ?_ | refine brF ?_)); conv => whnf)
    refine round_end (i + 1) hlt (by omega) ⟨?_, ⟨rfl, trivial⟩, rfl, rfl⟩
    repeat ((conv => whnf); first | refine ⟨e, ?_⟩ | refine ⟨e4, ?_⟩ | refine ⟨e5, ?_⟩ | refine ⟨rfl, ?_⟩)
    trivial
  · have h3 : i = xs.length := by rw [ltI_f] at g1; omega
    subst h3
    ((repeat ((conv => whnf); first | refine brT ?_ | refine brF ?_)); conv => whnf)
    exact ⟨[.int .i64 (k + xs.length)], rfl, rfl, .inl ⟨⟨rfl, trivial⟩, ⟨by simp [rowM], trivial⟩, rfl, rfl⟩⟩
theorem heldIntS_spec (k : Int) (n : Nat) (h0 : 0 ≤ k) (h1 : k + n ≤ 4611686018427387904) : FSpec env.P 31 [.sl ((marks k n).map iLV), .int .i64 k] (.int .i64 (k + n)) := by
  refine FSpec_of_code env_ok (fn := Try.f31) Try.func31 rfl Try.call31 _ _ ?_
  have hl : (List.map iLV (marks k n)).length = n := by simp [marks_len]
  ((repeat ((conv => whnf); first | refine brT ?_ | refine brF ?_)); conv => whnf)
  refine loop_rule (α := Nat) (fun i => [(5, .int .i64 (i : Int)), (1, .int .i64 (k + i))]) (fun i => []) (fun i => n - i) (fun i => i ≤ n) 0 (Nat.zero_le _) ?_ ?_
  · have e2 : LV.int .i64 k = LV.int .i64 (k + ((0 : Nat) : Int)) := by simp
    refine ⟨?_, trivial, rfl, rfl⟩
    ((repeat ((conv => whnf); first | refine ⟨e2, ?_⟩ | refine ⟨rfl, ?_⟩)); trivial)
  intro i hi
  ((repeat ((conv => whnf); first | refine brT ?_ | refine brF ?_)); conv => whnf)
  intro hm
  rw [hl] at hm
  ((repeat ((conv => whnf); first | refine brT ?_ | refine brF ?_)); conv => whnf)
  (refine ⟨fun g1 => ?_, fun g1 => ?_⟩ <;> rw [g1])
  · have hlt : i < n := by rw [ltI_t] at g1; omega
    have e := step_i hlt hm
    have e4 : LV.int .i64 (IntKind.i64.wrap (k + i + 1)) = LV.int .i64 (k + ((i + 1 : Nat) : Int)) := by
      rw [wrap64 (by omega) (by omega)]; congr 1; omega
    have hg : (List.map iLV (marks k n))[i]? = some (.int .i64 (k + i)) := by
      rw [List.getElem?_map, List.getElem?_eq_getElem (by rw [marks_len]; exact hlt), marks_get]; rfl
    ((repeat ((conv => whnf); first | refine brT ?_ | refine brF ?_)); conv => whnf)
    refine ⟨i, _, rfl, hg, rfl, ?_⟩
    ((repeat ((conv => whnf); first | refine brT ?_ | refine brF ?_)); conv => whnf)
    rw [show notB (eqI (k + (i : Int)) (k + i)) = false by simp [notB, eqI]]
    ((repeat ((conv => whnf); first | refine brT ?_ | refine brF ?_)); conv => whnf)
    refine round_end (i + 1) hlt (by omega) ⟨?_, trivial, rfl, rfl⟩
    repeat ((conv => whnf); first | refine ⟨e, ?_⟩ | refine ⟨e4, ?_⟩ | refine ⟨rfl, ?_⟩)
    trivial
  · have h3 : i = n := by rw [ltI_f] at g1; omega
    subst h3
    ((repeat ((conv => whnf); first | refine brT ?_ | refine brF ?_)); conv => whnf)
    exact ⟨rfl, rfl, List.nodup_nil⟩
theorem eqIntS_spec (ps qs : List Int) : FSpec env.P 27 [.sl (ps.map intLV), .sl (qs.map intLV)] (.bool (eqList eqI ps qs)) := by
  refine FSpec_of_code env_ok (fn := Try.f27) Try.func27 rfl Try.call27 _ _ ?_
  ((repeat ((conv => whnf); first | refine brT ?_ | refine brF ?_)); conv => whnf)
  intro hp
  ((repeat ((conv => whnf); first | refine brT ?_ | refine brF ?_)); conv => whnf)
  intro hq
  ((repeat ((conv => whnf); first | refine brT ?_ | refine brF ?_)); conv => whnf)
  (refine ⟨fun h => ?_, fun h => ?_⟩ <;> rw [h])
  · ((repeat ((conv => whnf); first | refine brT ?_ | refine brF ?_)); conv => whnf)
    refine fin ?_
    rw [notB_t] at h
    rw [eqList_len (eqI_nolen h)]
  rw [notB_f] at h
  have hl := eqI_len h
  have hp' : ps.length ≤ Go.maxLen := by simpa using hp
  ((repeat ((conv => whnf); first | refine brT ?_ | refine brF ?_)); conv => whnf)
  refine loop_rule (α := Nat) (fun k => [(5, .int .i64 (k : Int))]) (fun _ => []) (fun k => ps.length - k) (fun k => k ≤ ps.length ∧ eqTo eqI ps qs k) 0 ⟨Nat.zero_le _, fun _ _ _ h => absurd h (Nat.not_lt_zero _)⟩ ?_ ?_
  · refine ⟨?_, trivial, rfl, rfl⟩
    ((repeat ((conv => whnf); refine ⟨rfl, ?_⟩)); trivial)
  rintro k ⟨hk, he⟩
  ((repeat ((conv => whnf); first | refine brT ?_ | refine brF ?_)); conv => whnf)
  intro _
  ((repeat ((conv => whnf); first | refine brT ?_ | refine brF ?_)); conv => whnf)
  (refine ⟨fun h1 => ?_, fun h1 => ?_⟩ <;> rw [h1])
  · have hlt : k < ps.length := by rw [ltI_t] at h1; simp at h1; omega
    have hlt2 : k < qs.length := by omega
    ((repeat ((conv => whnf); first | refine brT ?_ | refine brF ?_)); conv => whnf)
    refine ⟨true, by kernel_rfl, ?_⟩
    ((repeat ((conv => whnf); first | refine brT ?_ | refine brF ?_)); conv => whnf)
    refine ⟨k, intLV ps[k], rfl, by simp [hlt], rfl, ?_⟩
    ((repeat ((conv => whnf); first | refine brT ?_ | refine brF ?_)); conv => whnf)
    refine ⟨k, intLV qs[k], rfl, by simp [hlt2], rfl, ?_⟩
    ((repeat ((conv => whnf); first | refine brT ?_ | refine brF ?_)); conv => whnf)
    (refine ⟨fun h3 => ?_, fun h3 => ?_⟩ <;> rw [h3])
    · rw [notB_t] at h3
      ((repeat ((conv => whnf); first | refine brT ?_ | refine brF ?_)); conv => whnf)
      refine fin ?_
      rw [eqList_no (k := k) (x := ps[k]) (y := qs[k]) (by simp [hlt]) (by simp [hlt2]) h3]
    · rw [notB_f] at h3
      ((repeat ((conv => whnf); first | refine brT ?_ | refine brF ?_)); conv => whnf)
      refine round_end (k + 1) ⟨hlt, he.succ (x := ps[k]) (y := qs[k]) (by simp [hlt]) (by simp [hlt2]) h3⟩ (by omega) ⟨?_, trivial, rfl, rfl⟩
      have e := step_i hlt hp'
      ((repeat ((conv => whnf); first | refine ⟨e, ?_⟩ | refine ⟨rfl, ?_⟩)); trivial)
  · have h3 : ps.length ≤ k := by rw [ltI_f] at h1; simp at h1; omega
    have h4 : k = ps.length := by omega
    subst h4
    ((repeat ((conv => whnf); first | refine brT ?_ | refine brF ?_)); conv => whnf)
    refine fin ?_
    rw [eqTo.all hl he]
theorem szIntS_spec (r : List Int) (l : Int) : FSpec env.P 103 [rowSl r, .int .i64 l] (.int .i64 (szN l r.length)) := by
  refine FSpec_of_code env_ok (fn := Try.f103) Try.func103 rfl Try.call103 _ _ ?_
  ((repeat ((conv => whnf); first | refine brT ?_ | refine brF ?_)); conv => whnf)
  intro hm
  rw [List.length_map]
  ((repeat ((conv => whnf); first | refine brT ?_ | refine brF ?_)); conv => whnf)
  (refine ⟨fun h => ?_, fun h => ?_⟩ <;> rw [h])
  · ((repeat ((conv => whnf); first | refine brT ?_ | refine brF ?_)); conv => whnf); exact ⟨rfl, by unfold szN; rw [h], List.nodup_nil⟩
  · ((repeat ((conv => whnf); first | refine brT ?_ | refine brF ?_)); conv => whnf); exact ⟨rfl, by unfold szN; rw [h], List.nodup_nil⟩
theorem toIntS_h (r : List Int) (hb : 8 * r.length ≤ 281474976710656) : HSpec env.P 25 [rowSl r] [] (.hs 0 (r.map intLV).length) [.arr 3 1 (r.map intLV)] := by
  refine HSpec_of_code (E := env.x [] 0) env_ok.x (fn := Try.f25) Try.func25 rfl Try.call25 _ _ _ _ ?_
  ((repeat ((conv => whnf); first | refine brT ?_ | refine brF ?_)); conv => whnf)
  intro hp
  have hp' : r.length ≤ Go.maxLen := by simpa using hp
  ((repeat ((conv => whnf); first | refine brT ?_ | refine brF ?_)); conv => whnf)
  refine ⟨r.length, by simp, by simp, hb, hp', rfl, by decide, ?_⟩
  ((repeat ((conv => whnf); first | refine brT ?_ | refine brF ?_)); conv => whnf)
  refine loop_rule (α := Nat) (fun k => [(4, .int .i64 (k : Int))]) (fun k => [.arr 3 1 (fillLV intLV (intLV 0) r k)]) (fun k => r.length - k) (fun k => k ≤ r.length) 0 (Nat.zero_le _) ?_ ?_
  · refine ⟨?_, ⟨by simp [fillLV, intLV], trivial⟩, rfl, rfl⟩
    ((repeat ((conv => whnf); refine ⟨rfl, ?_⟩)); trivial)
  rintro k hk
  ((repeat ((conv => whnf); first | refine brT ?_ | refine brF ?_)); conv => whnf)
  intro _
  ((repeat ((conv => whnf); first | refine brT ?_ | refine brF ?_)); conv => whnf)
  (refine ⟨fun h1 => ?_, fun h1 => ?_⟩ <;> rw [h1])
  · have hlt : k < r.length := by rw [ltI_t] at h1; simp at h1; omega
    ((repeat ((conv => whnf); first | refine brT ?_ | refine brF ?_)); conv => whnf)
    refine ⟨k, intLV r[k], rfl, by simp [hlt], rfl, ?_⟩
    ((repeat ((conv => whnf); first | refine brT ?_ | refine brF ?_)); conv => whnf)
    refine ⟨(fill_len hk).symm, rfl, k, rfl, by rw [fill_len hk]; exact hlt, ?_⟩
    ((repeat ((conv => whnf); first | refine brT ?_ | refine brF ?_)); conv => whnf)
    refine ⟨(fill_len hk).symm, k, [], intLV 0, rfl, by simp [getP, fill_get hlt], rfl, rfl, rfl, fillLV intLV (intLV 0) r (k + 1), by rw [fill_get hlt]; exact fill_set hlt, ?_⟩
    ((repeat ((conv => whnf); first | refine brT ?_ | refine brF ?_)); conv => whnf)
    refine round_end (k + 1) hlt (by omega) ⟨?_, ⟨rfl, trivial⟩, rfl, rfl⟩
    have e := step_i hlt hp'
    ((repeat ((conv => whnf); first | refine ⟨e, ?_⟩ | refine ⟨rfl, ?_⟩)); trivial)
  · have h4 : k = r.length := by rw [ltI_f] at h1; simp at h1; omega
    subst h4
    ((repeat ((conv => whnf); first | refine brT ?_ | refine brF ?_)); conv => whnf)
    exact ⟨[.hs 0 r.length], by simp [tupOf], rfl, .inl ⟨⟨rfl, trivial⟩, ⟨congrArg (Blk.arr 3 1) fill_all, trivial⟩, rfl, rfl⟩⟩
theorem toIntS_f (r : List Int) (hb : 8 * r.length ≤ 281474976710656) : FSpec env.P 25 [rowSl r] (rowOw r) := by
  refine FSpec_of_code env_ok (fn := Try.f25) Try.func25 rfl Try.call25 _ _ ?_
  ((repeat ((conv => whnf); first | refine brT ?_ | refine brF ?_)); conv => whnf)
  intro hp
  have hp' : r.length ≤ Go.maxLen := by simpa using hp
  ((repeat ((conv => whnf); first | refine brT ?_ | refine brF ?_)); conv => whnf)
  refine ⟨r.length, by simp, by simp, hb, hp', rfl, by decide, ?_⟩
  ((repeat ((conv => whnf); first | refine brT ?_ | refine brF ?_)); conv => whnf)
  refine loop_rule (α := Nat) (fun k => [(4, .int .i64 (k : Int))]) (fun k => [.arr 3 1 (fillLV intLV (intLV 0) r k)]) (fun k => r.length - k) (fun k => k ≤ r.length) 0 (Nat.zero_le _) ?_ ?_
  · refine ⟨?_, ⟨by simp [fillLV, intLV], trivial⟩, rfl, rfl⟩
    ((repeat ((conv => whnf); refine ⟨rfl, ?_⟩)); trivial)
  rintro k hk
  ((repeat ((conv => whnf); first | refine brT ?_ | refine brF ?_)); conv => whnf)
  intro _
  ((repeat ((conv => whnf); first | refine brT ?_ | refine brF ?_)); conv => whnf)
  (refine ⟨fun h1 => ?_, fun h1 => ?_⟩ <;> rw [h1])
  · have hlt : k < r.length := by rw [ltI_t] at h1; simp at h1; omega
    ((repeat ((conv => whnf); first | refine brT ?_ | refine brF ?_)); conv => whnf)
    refine ⟨k, intLV r[k], rfl, by simp [hlt], rfl, ?_⟩
    ((repeat ((conv => whnf); first | refine brT ?_ | refine brF ?_)); conv => whnf)
    refine ⟨(fill_len hk).symm, rfl, k, rfl, by rw [fill_len hk]; exact hlt, ?_⟩
    ((repeat ((conv => whnf); first | refine brT ?_ | refine brF ?_)); conv => whnf)
    refine ⟨(fill_len hk).symm, k, [], intLV 0, rfl, by simp [getP, fill_get hlt], rfl, rfl, rfl, fillLV intLV (intLV 0) r (k + 1), by rw [fill_get hlt]; exact fill_set hlt, ?_⟩
    ((repeat ((conv => whnf); first | refine brT ?_ | refine brF ?_)); conv => whnf)
    refine round_end (k + 1) hlt (by omega) ⟨?_, ⟨rfl, trivial⟩, rfl, rfl⟩
    have e := step_i hlt hp'
    ((repeat ((conv => whnf); first | refine ⟨e, ?_⟩ | refine ⟨rfl, ?_⟩)); trivial)
  · have h4 : k = r.length := by rw [ltI_f] at h1; simp at h1; omega
    subst h4
    ((repeat ((conv => whnf); first | refine brT ?_ | refine brF ?_)); conv => whnf)
    exact ⟨(fill_len (Nat.le_refl _)).symm, rfl, rfl, fill_all, by simp⟩
end Go.Proofs.Ytpfipmjmblgjfaa

namespace Go.Proofs.Ytpfipmjmblgjfaa
open Go.Lg Go.Pm
set_option maxHeartbeats 1600000
set_option maxRecDepth 10000
set_option linter.unusedVariables false
set_option linter.unusedSimpArgs false

/-! ### Places -/
def boLV (b : Bool) : LV := .bool b
theorem getZ (ps : List Int) {k : Nat} (h : k < ps.length) : ps.getD k 0 = ps[k] := getD_lt h
theorem memT {ps : List Int} {k i : Nat} (h : i < k) (hk : k ≤ ps.length) : ps[i] ∈ ps.take k := List.mem_take_iff_getElem.2 ⟨i, by omega, rfl⟩
theorem plc0 (d : Int) (ps : List Int) (n : Nat) : (plc d ps n 0).map intLV = List.replicate n (intLV d) := by simp [plc]
theorem fnd0 (ps : List Int) (n : Nat) : (fnd ps n 0).map boLV = List.replicate n (boLV false) := by simp [fnd]
theorem plcI {d : Int} {ps : List Int} {n k : Nat} (hk : k < ps.length) : ((plc d ps n k).map intLV).set ps[k].toNat (intLV (k : Int)) = (plc d ps n (k + 1)).map intLV := by
  rw [plc, getZ ps hk, List.map_set]
theorem fndI {ps : List Int} {n k : Nat} (hk : k < ps.length) : ((fnd ps n k).map boLV).set ps[k].toNat (boLV true) = (fnd ps n (k + 1)).map boLV := by
  rw [fnd, getZ ps hk, List.map_set]
def plcR (ps : List Int) : LV := match permB ps with | true => .tup [.hs 0 ps.length, .bool true] | false => .tup [.nil, .bool false]
def plcH (ps : List Int) : List Blk := match permB ps with | true => [.arr 3 1 ((inv ps).map intLV)] | false => []
theorem placesIn_h (ps : List Int) (hb : 8 * ps.length ≤ 281474976710656) : HSpec env.P 99 [rowSl ps] [] (plcR ps) (plcH ps) := by
  refine HSpec_of_code (E := env.x [] 0) env_ok.x (fn := Try.f99) Try.func99 rfl Try.call99 _ _ _ _ ?_
  ((repeat ((conv => whnf); first | refine brT ?_ | refine brF ?_)); conv => whnf)
  intro hp
  have hp' : ps.length ≤ Go.maxLen := by simpa using hp
  ((repeat ((conv => whnf); first | refine brT ?_ | refine brF ?_)); conv => whnf)
  refine ⟨ps.length, by simp, by simp, hb, hp', rfl, by decide, ?_⟩
  ((repeat ((conv => whnf); first | refine brT ?_ | refine brF ?_)); conv => whnf)
  intro _
  ((repeat ((conv => whnf); first | refine brT ?_ | refine brF ?_)); conv => whnf)
  refine ⟨ps.length, by simp, by simp, by show 1 * ps.length ≤ _; omega, hp', rfl, by decide, ?_⟩
  ((repeat ((conv => whnf); first | refine brT ?_ | refine brF ?_)); conv => whnf)
  intro _
  ((repeat ((conv => whnf); first | refine brT ?_ | refine brF ?_)); conv => whnf)
  refine loop_rule (α := Nat) (fun k => [(16, .int .i64 (k : Int))]) (fun k => [.arr 3 1 ((plc 0 ps ps.length k).map intLV), .arr 4 1 ((fnd ps ps.length k).map boLV)]) (fun k => ps.length - k) (fun k => k ≤ ps.length ∧ okTo ps ps.length k = true) 0 ⟨Nat.zero_le _, rfl⟩ ?_ ?_
  · refine ⟨?_, ⟨by rw [plc0]; rfl, by rw [fnd0]; rfl, trivial⟩, rfl, rfl⟩
    ((repeat ((conv => whnf); refine ⟨rfl, ?_⟩)); trivial)
  rintro k ⟨hk, hok⟩
  have hl1 : ps.length = ((plc 0 ps ps.length k).map intLV).length := by rw [List.length_map, plc_len]
  have hl2 : ps.length = ((fnd ps ps.length k).map boLV).length := by rw [List.length_map, fnd_len]
  ((repeat ((conv => whnf); first | refine brT ?_ | refine brF ?_)); conv => whnf)
  (refine ⟨fun h1 => ?_, fun h1 => ?_⟩ <;> rw [h1])
  · have hlt : k < ps.length := by rw [ltI_t] at h1; simp at h1; omega
    have e := step_i hlt hp'
    ((repeat ((conv => whnf); first | refine brT ?_ | refine brF ?_)); conv => whnf)
    refine ⟨k, intLV ps[k], rfl, by simp [hlt], rfl, ?_⟩
    ((repeat ((conv => whnf); first | refine brT ?_ | refine brF ?_)); conv => whnf)
    have no : ∀ (_ : ¬ (0 ≤ ps.getD k 0 ∧ ps.getD k 0 < ps.length ∧ ps.getD k 0 ∉ ps.take k)), permB ps = false := fun h => okTo_no hlt h
    rw [getZ ps hlt] at no
    (refine ⟨fun h2 => ?_, fun h2 => ?_⟩ <;> rw [h2])
    · have hn := no fun h => by rw [ltI_t] at h2; omega
      ((repeat ((conv => whnf); first | refine brT ?_ | refine brF ?_)); conv => whnf)
      unfold plcR plcH
      rw [hn]
      exact ⟨[.nil, .bool false], rfl, rfl, .inl ⟨⟨rfl, rfl, trivial⟩, trivial, rfl, rfl⟩⟩
    rw [ltI_f] at h2
    ((repeat ((conv => whnf); first | refine brT ?_ | refine brF ?_)); conv => whnf)
    intro _
    ((repeat ((conv => whnf); first | refine brT ?_ | refine brF ?_)); conv => whnf)
    (refine ⟨fun h3 => ?_, fun h3 => ?_⟩ <;> rw [h3])
    · have hn := no fun h => by rw [leI_t] at h3; simp at h3; omega
      ((repeat ((conv => whnf); first | refine brT ?_ | refine brF ?_)); conv => whnf)
      unfold plcR plcH
      rw [hn]
      exact ⟨[.nil, .bool false], rfl, rfl, .inl ⟨⟨rfl, rfl, trivial⟩, trivial, rfl, rfl⟩⟩
    rw [leI_f] at h3
    simp at h3
    have hN : ps[k].toNat < ps.length := by omega
    have hE : ps[k] = (ps[k].toNat : Int) := by omega
    ((repeat ((conv => whnf); first | refine brT ?_ | refine brF ?_)); conv => whnf)
    refine ⟨hl2, rfl, ps[k].toNat, hE, by rw [← hl2]; exact hN, ?_⟩
    ((repeat ((conv => whnf); first | refine brT ?_ | refine brF ?_)); conv => whnf)
    have hg := fnd_get hok hk ps[k].toNat hN
    rw [← hE] at hg
    refine ⟨hl2, by simp, boLV (decide (ps[k] ∈ ps.take k)), by simp only [getP]; rw [List.getElem?_map, hg]; rfl, rfl, ?_⟩
    ((repeat ((conv => whnf); first | refine brT ?_ | refine brF ?_)); conv => whnf)
    (refine ⟨fun h4 => ?_, fun h4 => ?_⟩ <;> rw [h4])
    · have hn := no fun h => h.2.2 (of_decide_eq_true h4)
      ((repeat ((conv => whnf); first | refine brT ?_ | refine brF ?_)); conv => whnf)
      unfold plcR plcH
      rw [hn]
      exact ⟨[.nil, .bool false], rfl, rfl, .inl ⟨⟨rfl, rfl, trivial⟩, trivial, rfl, rfl⟩⟩
    have hok' : okTo ps ps.length (k + 1) = true := okTo_step hok (by rw [getZ ps hlt]; exact h2) (by rw [getZ ps hlt]; exact h3) (by rw [getZ ps hlt]; exact of_decide_eq_false h4)
    ((repeat ((conv => whnf); first | refine brT ?_ | refine brF ?_)); conv => whnf)
    refine ⟨hl1, rfl, ps[k].toNat, hE, by rw [← hl1]; exact hN, ?_⟩
    ((repeat ((conv => whnf); first | refine brT ?_ | refine brF ?_)); conv => whnf)
    obtain ⟨v1, hv1⟩ : ∃ v, ((plc 0 ps ps.length k).map intLV)[ps[k].toNat]? = some (intLV v) := ⟨_, by rw [List.getElem?_map, List.getElem?_eq_getElem (by rw [plc_len]; exact hN)]; rfl⟩
    have hv2 : ((fnd ps ps.length k).map boLV)[ps[k].toNat]? = some (boLV (decide (ps[k] ∈ ps.take k))) := by rw [List.getElem?_map, hg]; rfl
    refine ⟨hl1, ps[k].toNat, [], intLV v1, rfl, by simp only [getP]; rw [hv1], rfl, rfl, rfl, (plc 0 ps ps.length (k + 1)).map intLV, by rw [hv1]; exact plcI hlt, ?_⟩
    ((repeat ((conv => whnf); first | refine brT ?_ | refine brF ?_)); conv => whnf)
    refine ⟨hl2, rfl, ps[k].toNat, hE, by rw [← hl2]; exact hN, ?_⟩
    ((repeat ((conv => whnf); first | refine brT ?_ | refine brF ?_)); conv => whnf)
    refine ⟨hl2, ps[k].toNat, [], boLV (decide (ps[k] ∈ ps.take k)), rfl, by simp only [getP]; rw [hv2], rfl, rfl, rfl, (fnd ps ps.length (k + 1)).map boLV, by rw [hv2]; exact fndI hlt, ?_⟩
    ((repeat ((conv => whnf); first | refine brT ?_ | refine brF ?_)); conv => whnf)
    refine round_end (k + 1) ⟨hlt, hok'⟩ (by omega) ⟨?_, ⟨rfl, rfl, trivial⟩, rfl, rfl⟩
    ((repeat ((conv => whnf); first | refine ⟨e, ?_⟩ | refine ⟨rfl, ?_⟩)); trivial)
  · have h3 : k = ps.length := by rw [ltI_f] at h1; simp at h1; omega
    subst h3
    have hp : permB ps = true := hok
    ((repeat ((conv => whnf); first | refine brT ?_ | refine brF ?_)); conv => whnf)
    unfold plcR plcH
    rw [hp]
    exact ⟨[.hs 0 ps.length, .bool true], rfl, rfl, .inr ⟨[.old 0], ⟨rfl, rfl, rfl, rfl, trivial⟩, ⟨rfl, by rw [plc_all hp]; rfl, trivial⟩, rfl⟩⟩
end Go.Proofs.Ytpfipmjmblgjfaa

namespace Go.Proofs.Ytpfipmjmblgjfaa
open Go.Lg Go.Pm
set_option maxHeartbeats 1600000
set_option maxRecDepth 10000
set_option linter.unusedVariables false
set_option linter.unusedSimpArgs false

theorem map_c (z : LV) : ∀ l : List Int, l.map (fun _ => z) = List.replicate l.length z
  | [] => rfl
  | x :: l => by rw [List.map_cons, map_c z l]; rfl
theorem l1Inverse_h (ps : List Int) (hb : 8 * ps.length ≤ 281474976710656) : HSpec env.P 98 [rowSl ps, .int .i64 (ps.length : Int)] [] (plcR ps) (plcH ps) := by
  refine HSpec_of_code (E := env.x [] 0) env_ok.x (fn := Try.f98) Try.func98 rfl Try.call98 _ _ _ _ ?_
  have hp' : ps.length ≤ Go.maxLen := by unfold Go.maxLen; omega
  ((repeat ((conv => whnf); first | refine brT ?_ | refine brF ?_)); conv => whnf)
  refine ⟨ps.length, by simp, by simp, hb, hp', rfl, by decide, ?_⟩
  ((repeat ((conv => whnf); first | refine brT ?_ | refine brF ?_)); conv => whnf)
  refine ⟨by simp, fun _ => ?_⟩
  ((repeat ((conv => whnf); first | refine brT ?_ | refine brF ?_)); conv => whnf)
  refine loop_rule (α := Nat) (fun k => [(14, .int .i64 (k : Int))]) (fun k => [.arr 3 1 (fillLV (fun _ : Int => intLV (-1)) (intLV 0) ps k)]) (fun k => ps.length - k) (fun k => k ≤ ps.length) 0 (Nat.zero_le _) ?_ ?_
  · refine ⟨?_, ⟨by simp [fillLV, intLV], trivial⟩, rfl, rfl⟩
    ((repeat ((conv => whnf); refine ⟨rfl, ?_⟩)); trivial)
  intro k hk
  ((repeat ((conv => whnf); first | refine brT ?_ | refine brF ?_)); conv => whnf)
  (refine ⟨fun h1 => ?_, fun h1 => ?_⟩ <;> rw [h1])
  · have hlt : k < ps.length := by rw [ltI_t] at h1; simp at h1; omega
    have e := step_i hlt hp'
    ((repeat ((conv => whnf); first | refine brT ?_ | refine brF ?_)); conv => whnf)
    refine ⟨(fill_len hk).symm, rfl, k, rfl, by rw [fill_len hk]; exact hlt, ?_⟩
    ((repeat ((conv => whnf); first | refine brT ?_ | refine brF ?_)); conv => whnf)
    refine ⟨(fill_len hk).symm, k, [], intLV 0, rfl, by simp [getP, fill_get hlt], rfl, rfl, rfl, fillLV (fun _ : Int => intLV (-1)) (intLV 0) ps (k + 1), by rw [fill_get hlt]; exact fill_set (lv := fun _ : Int => intLV (-1)) hlt, ?_⟩
    ((repeat ((conv => whnf); first | refine brT ?_ | refine brF ?_)); conv => whnf)
    refine round_end (k + 1) hlt (by omega) ⟨?_, ⟨rfl, trivial⟩, rfl, rfl⟩
    ((repeat ((conv => whnf); first | refine ⟨e, ?_⟩ | refine ⟨rfl, ?_⟩)); trivial)
  have hk' : k = ps.length := by rw [ltI_f] at h1; simp at h1; omega
  subst hk'
  have e0 : fillLV (fun _ : Int => intLV (-1)) (intLV 0) ps ps.length = (plc (-1) ps ps.length 0).map intLV := by rw [fill_all, plc0, map_c]
  rw [e0]
  ((repeat ((conv => whnf); first | refine brT ?_ | refine brF ?_)); conv => whnf)
  intro _
  ((repeat ((conv => whnf); first | refine brT ?_ | refine brF ?_)); conv => whnf)
  rw [show notB (eqI ((ps.map intLV).length : Int) (ps.length : Int)) = false by rw [List.length_map, eqI_refl]; simp [notB]]
  ((repeat ((conv => whnf); first | refine brT ?_ | refine brF ?_)); conv => whnf)
  intro _
  ((repeat ((conv => whnf); first | refine brT ?_ | refine brF ?_)); conv => whnf)
  refine loop_rule (α := Nat) (fun k => [(27, .int .i64 (k : Int))]) (fun k => [.arr 3 1 ((plc (-1) ps ps.length k).map intLV)]) (fun k => ps.length - k) (fun k => k ≤ ps.length ∧ okTo ps ps.length k = true) 0 ⟨Nat.zero_le _, rfl⟩ ?_ ?_
  · refine ⟨?_, ⟨rfl, trivial⟩, rfl, rfl⟩
    ((repeat ((conv => whnf); refine ⟨rfl, ?_⟩)); trivial)
  rintro k ⟨hk, hok⟩
  have hl1 : ps.length = ((plc (-1) ps ps.length k).map intLV).length := by rw [List.length_map, plc_len]
  ((repeat ((conv => whnf); first | refine brT ?_ | refine brF ?_)); conv => whnf)
  (refine ⟨fun h1 => ?_, fun h1 => ?_⟩ <;> rw [h1])
  · have hlt : k < ps.length := by rw [ltI_t] at h1; simp at h1; omega
    have e := step_i hlt hp'
    ((repeat ((conv => whnf); first | refine brT ?_ | refine brF ?_)); conv => whnf)
    refine ⟨k, intLV ps[k], rfl, by simp [hlt], rfl, ?_⟩
    ((repeat ((conv => whnf); first | refine brT ?_ | refine brF ?_)); conv => whnf)
    have no : ∀ (_ : ¬ (0 ≤ ps.getD k 0 ∧ ps.getD k 0 < ps.length ∧ ps.getD k 0 ∉ ps.take k)), permB ps = false := fun h => okTo_no hlt h
    rw [getZ ps hlt] at no
    (refine ⟨fun h2 => ?_, fun h2 => ?_⟩ <;> rw [h2])
    · have hn := no fun h => by rw [ltI_t] at h2; omega
      ((repeat ((conv => whnf); first | refine brT ?_ | refine brF ?_)); conv => whnf)
      unfold plcR plcH
      rw [hn]
      exact ⟨[.nil, .bool false], rfl, rfl, .inl ⟨⟨rfl, rfl, trivial⟩, trivial, rfl, rfl⟩⟩
    rw [ltI_f] at h2
    ((repeat ((conv => whnf); first | refine brT ?_ | refine brF ?_)); conv => whnf)
    (refine ⟨fun h3 => ?_, fun h3 => ?_⟩ <;> rw [h3])
    · have hn := no fun h => by rw [leI_t] at h3; omega
      ((repeat ((conv => whnf); first | refine brT ?_ | refine brF ?_)); conv => whnf)
      unfold plcR plcH
      rw [hn]
      exact ⟨[.nil, .bool false], rfl, rfl, .inl ⟨⟨rfl, rfl, trivial⟩, trivial, rfl, rfl⟩⟩
    rw [leI_f] at h3
    have hN : ps[k].toNat < ps.length := by omega
    have hE : ps[k] = (ps[k].toNat : Int) := by omega
    ((repeat ((conv => whnf); first | refine brT ?_ | refine brF ?_)); conv => whnf)
    refine ⟨hl1, rfl, ps[k].toNat, hE, by rw [← hl1]; exact hN, ?_⟩
    ((repeat ((conv => whnf); first | refine brT ?_ | refine brF ?_)); conv => whnf)
    obtain ⟨v, hv, hs⟩ := plc_sign hok hk hN
    rw [← hE] at hs
    have hv1 : ((plc (-1) ps ps.length k).map intLV)[ps[k].toNat]? = some (intLV v) := by rw [List.getElem?_map, hv]; rfl
    refine ⟨hl1, by simp, intLV v, by simp only [getP]; rw [hv1], rfl, ?_⟩
    ((repeat ((conv => whnf); first | refine brT ?_ | refine brF ?_)); conv => whnf)
    (refine ⟨fun h4 => ?_, fun h4 => ?_⟩ <;> rw [h4])
    · have hn := no fun h => h.2.2 (hs.1 (leI_t.1 h4))
      ((repeat ((conv => whnf); first | refine brT ?_ | refine brF ?_)); conv => whnf)
      unfold plcR plcH
      rw [hn]
      exact ⟨[.nil, .bool false], rfl, rfl, .inl ⟨⟨rfl, rfl, trivial⟩, trivial, rfl, rfl⟩⟩
    have hok' : okTo ps ps.length (k + 1) = true := okTo_step hok (by rw [getZ ps hlt]; exact h2) (by rw [getZ ps hlt]; exact h3) (by rw [getZ ps hlt]; intro hm; have := hs.2 hm; rw [leI_f] at h4; omega)
    ((repeat ((conv => whnf); first | refine brT ?_ | refine brF ?_)); conv => whnf)
    refine ⟨hl1, rfl, ps[k].toNat, hE, by rw [← hl1]; exact hN, ?_⟩
    ((repeat ((conv => whnf); first | refine brT ?_ | refine brF ?_)); conv => whnf)
    refine ⟨hl1, ps[k].toNat, [], intLV v, rfl, by simp only [getP]; rw [hv1], rfl, rfl, rfl, (plc (-1) ps ps.length (k + 1)).map intLV, by rw [hv1]; exact plcI hlt, ?_⟩
    ((repeat ((conv => whnf); first | refine brT ?_ | refine brF ?_)); conv => whnf)
    refine round_end (k + 1) ⟨hlt, hok'⟩ (by omega) ⟨?_, ⟨rfl, trivial⟩, rfl, rfl⟩
    ((repeat ((conv => whnf); first | refine ⟨e, ?_⟩ | refine ⟨rfl, ?_⟩)); trivial)
  · have h3 : k = ps.length := by rw [ltI_f] at h1; simp at h1; omega
    subst h3
    have hp : permB ps = true := hok
    ((repeat ((conv => whnf); first | refine brT ?_ | refine brF ?_)); conv => whnf)
    unfold plcR plcH
    rw [hp]
    exact ⟨[.hs 0 ps.length, .bool true], rfl, rfl, .inr ⟨[.old 0], ⟨rfl, rfl, rfl, rfl, trivial⟩, ⟨rfl, rfl, trivial⟩, rfl⟩⟩
theorem isPerm_impl (ps : List Int) (hb : 8 * ps.length ≤ 281474976710656) : FSpec env.P 26 [rowSl ps] (.bool (permB ps)) := by
  refine FSpec_of_code (E := env.x [99] 0) env_ok.x (fn := Try.f26) Try.func26 rfl Try.call26 _ _ ?_
  have h := placesIn_h ps hb
  unfold plcR plcH at h
  cases hp : permB ps <;> rw [hp] at h <;> ((repeat ((conv => whnf); first | refine brT ?_ | refine brF ?_)); conv => whnf)
  all_goals
    refine ⟨[], _, _, _, _, h, rfl, rfl, rfl, trivial, ?_⟩
    ((repeat ((conv => whnf); first | refine brT ?_ | refine brF ?_)); conv => whnf)
    exact fin rfl
theorem isPerm_spec (ps : List Int) (hb : 8 * ps.length ≤ 281474976710656) : FSpec env.P 24 [rowSl ps] (.bool (permB ps)) := by
  refine FSpec_of_code (E := env.x [98] 0) env_ok.x (fn := Try.f24) Try.func24 rfl Try.call24 _ _ ?_
  have h := l1Inverse_h ps hb
  unfold plcR plcH at h
  cases hp : permB ps <;> rw [hp] at h <;> ((repeat ((conv => whnf); first | refine brT ?_ | refine brF ?_)); conv => whnf)
  all_goals
    intro _
    rw [List.length_map]
    ((repeat ((conv => whnf); first | refine brT ?_ | refine brF ?_)); conv => whnf)
    refine ⟨[], _, _, _, _, h, rfl, rfl, rfl, trivial, ?_⟩
    ((repeat ((conv => whnf); first | refine brT ?_ | refine brF ?_)); conv => whnf)
    exact fin rfl
/-- The inverse; nothing of what is no permutation. -/
def invL (ps : List Int) : List Int := match permB ps with | true => inv ps | false => []
theorem inv_impl (ps : List Int) (hb : 8 * ps.length ≤ 281474976710656) : HSpec env.P 29 [rowSl ps] [] (.hs 0 ((invL ps).map intLV).length) [.arr 3 1 ((invL ps).map intLV)] := by
  refine HSpec_of_code (E := env.x [99] 0) env_ok.x (fn := Try.f29) Try.func29 rfl Try.call29 _ _ _ _ ?_
  have h := placesIn_h ps hb
  unfold plcR plcH at h
  unfold invL
  cases hp : permB ps <;> rw [hp] at h <;> ((repeat ((conv => whnf); first | refine brT ?_ | refine brF ?_)); conv => whnf)
  · refine ⟨[], _, _, _, _, h, rfl, rfl, rfl, trivial, ?_⟩
    ((repeat ((conv => whnf); first | refine brT ?_ | refine brF ?_)); conv => whnf)
    rw [show notB false = true by simp [notB]]
    ((repeat ((conv => whnf); first | refine brT ?_ | refine brF ?_)); conv => whnf)
    exact ⟨[.hs 0 0], rfl, rfl, .nl [.tmp 0 [] false 3 1] [.old 0] ⟨⟨rfl, rfl, trivial⟩, ⟨rfl, rfl, trivial⟩, rfl⟩⟩
  · refine ⟨[], _, _, _, _, h, rfl, rfl, rfl, trivial, ?_⟩
    ((repeat ((conv => whnf); first | refine brT ?_ | refine brF ?_)); conv => whnf)
    rw [show notB true = false by simp [notB]]
    ((repeat ((conv => whnf); first | refine brT ?_ | refine brF ?_)); conv => whnf)
    exact ⟨[.hs 0 ps.length], by simp [tupOf, inv_len], rfl, .inr ⟨[.old 0], ⟨rfl, rfl, trivial⟩, ⟨rfl, rfl, trivial⟩, rfl⟩⟩
theorem inv_spec (ps : List Int) (hb : 8 * ps.length ≤ 281474976710656) : HSpec env.P 28 [rowSl ps] [] (.hs 0 ((invL ps).map intLV).length) [.arr 3 1 ((invL ps).map intLV)] := by
  refine HSpec_of_code (E := env.x [98] 0) env_ok.x (fn := Try.f28) Try.func28 rfl Try.call28 _ _ _ _ ?_
  have h := l1Inverse_h ps hb
  unfold plcR plcH at h
  unfold invL
  cases hp : permB ps <;> rw [hp] at h <;> ((repeat ((conv => whnf); first | refine brT ?_ | refine brF ?_)); conv => whnf)
  all_goals
    intro _
    rw [show (ps.map intLV).length = ps.length by simp]
    ((repeat ((conv => whnf); first | refine brT ?_ | refine brF ?_)); conv => whnf)
    refine ⟨[], _, _, _, _, h, rfl, rfl, rfl, trivial, ?_⟩
    ((repeat ((conv => whnf); first | refine brT ?_ | refine brF ?_)); conv => whnf)
  · rw [show notB false = true by simp [notB]]
    ((repeat ((conv => whnf); first | refine brT ?_ | refine brF ?_)); conv => whnf)
    exact ⟨[.hs 0 0], rfl, rfl, .nl [.tmp 0 [] false 3 1] [.old 0] ⟨⟨rfl, rfl, trivial⟩, ⟨rfl, rfl, trivial⟩, rfl⟩⟩
  · rw [show notB true = false by simp [notB]]
    ((repeat ((conv => whnf); first | refine brT ?_ | refine brF ?_)); conv => whnf)
    exact ⟨[.hs 0 ps.length], by simp [tupOf, inv_len], rfl, .inr ⟨[.old 0], ⟨rfl, rfl, trivial⟩, ⟨rfl, rfl, trivial⟩, rfl⟩⟩
theorem ints_f {f : FuncId} {args : List LV} {xs : List Int} (h : HSpec env.P f args [] (.hs 0 (xs.map intLV).length) [.arr 3 1 (xs.map intLV)]) : FSpec env.P f args (rowOw xs) :=
  FSpec_of_HSpec h (by unfold rowOw; simp [exW])
end Go.Proofs.Ytpfipmjmblgjfaa

namespace Go.Proofs.Ytpfipmjmblgjfaa
open Go.Lg Go.Pm
set_option maxHeartbeats 1600000
set_option maxRecDepth 10000
set_option linter.unusedVariables false
set_option linter.unusedSimpArgs false

/-! ### Composition -/
theorem compose1_spec (q : List Int) (x : Int) (h0 : 0 ≤ x) (h1 : x.toNat < q.length) : FSpec env.P 102 [.int .i64 x, .ref (rowSl q)] (.int .i64 (q.getD x.toNat 0)) := by
  refine FSpec_of_code env_ok (fn := Try.f102) Try.func102 rfl Try.call102 _ _ ?_
  ((repeat ((conv => whnf); first | refine brT ?_ | refine brF ?_)); conv => whnf)
  refine ⟨x.toNat, intLV (q.getD x.toNat 0), by omega, by simp [h1], rfl, ?_⟩
  ((repeat ((conv => whnf); first | refine brT ?_ | refine brF ?_)); conv => whnf)
  exact ⟨rfl, rfl, List.nodup_nil⟩
theorem mapInt_h (F : Nat) (q ps : List Int) (g : Int → Int) (hF : ∀ x ∈ ps, FSpec env.P F [.int .i64 x, .ref (rowSl q)] (.int .i64 (g x))) (hb : 8 * ps.length ≤ 281474976710656) :
    HSpec env.P 101 [rowSl ps, .clos F [.hp 0 0 []]] [.box (rowSl q)] (.hs 1 ((ps.map g).map intLV).length) [.box (rowSl q), .arr 3 1 ((ps.map g).map intLV)] := by
  refine HSpec_of_code (E := env.x [] 1) env_ok.x (fn := Try.f101) Try.func101 rfl Try.call101 _ _ _ _ ?_
  ((repeat ((conv => whnf); first | refine brT ?_ | refine brF ?_)); conv => whnf)
  intro hp
  have hp' : ps.length ≤ Go.maxLen := by simpa using hp
  ((repeat ((conv => whnf); first | refine brT ?_ | refine brF ?_)); conv => whnf)
  refine ⟨ps.length, by simp, by simp, hb, hp', rfl, by decide, ?_⟩
  ((repeat ((conv => whnf); first | refine brT ?_ | refine brF ?_)); conv => whnf)
  intro _
  ((repeat ((conv => whnf); first | refine brT ?_ | refine brF ?_)); conv => whnf)
  refine loop_rule (α := Nat) (fun k => [(13, .int .i64 (k : Int))]) (fun k => [.box (rowSl q), .arr 3 1 (fillLV (fun x => intLV (g x)) (intLV 0) ps k)]) (fun k => ps.length - k) (fun k => k ≤ ps.length) 0 (Nat.zero_le _) ?_ ?_
  · refine ⟨?_, ⟨rfl, by simp [fillLV, intLV], trivial⟩, rfl, rfl⟩
    ((repeat ((conv => whnf); refine ⟨rfl, ?_⟩)); trivial)
  intro k hk
  ((repeat ((conv => whnf); first | refine brT ?_ | refine brF ?_)); conv => whnf)
  (refine ⟨fun h1 => ?_, fun h1 => ?_⟩ <;> rw [h1])
  · have hlt : k < ps.length := by rw [ltI_t] at h1; simp at h1; omega
    have e := step_i hlt hp'
    ((repeat ((conv => whnf); first | refine brT ?_ | refine brF ?_)); conv => whnf)
    refine ⟨k, intLV ps[k], rfl, by simp [hlt], rfl, ?_⟩
    ((repeat ((conv => whnf); first | refine brT ?_ | refine brF ?_)); conv => whnf)
    refine ⟨_, hF ps[k] (List.getElem_mem hlt), ?_⟩
    ((repeat ((conv => whnf); first | refine brT ?_ | refine brF ?_)); conv => whnf)
    refine ⟨(fill_len hk).symm, rfl, k, rfl, by rw [fill_len hk]; exact hlt, ?_⟩
    ((repeat ((conv => whnf); first | refine brT ?_ | refine brF ?_)); conv => whnf)
    refine ⟨(fill_len hk).symm, k, [], intLV 0, rfl, by simp [getP, fill_get hlt], rfl, rfl, rfl, fillLV (fun x => intLV (g x)) (intLV 0) ps (k + 1), by rw [fill_get hlt]; exact fill_set (lv := fun x => intLV (g x)) hlt, ?_⟩
    ((repeat ((conv => whnf); first | refine brT ?_ | refine brF ?_)); conv => whnf)
    refine round_end (k + 1) hlt (by omega) ⟨?_, ⟨rfl, rfl, trivial⟩, rfl, rfl⟩
    ((repeat ((conv => whnf); first | refine ⟨e, ?_⟩ | refine ⟨rfl, ?_⟩)); trivial)
  · have h4 : k = ps.length := by rw [ltI_f] at h1; simp at h1; omega
    subst h4
    ((repeat ((conv => whnf); first | refine brT ?_ | refine brF ?_)); conv => whnf)
    exact ⟨[.hs 1 ps.length], by simp [tupOf], rfl, .inl ⟨⟨rfl, trivial⟩, ⟨rfl, by rw [fill_all, List.map_map]; rfl, trivial⟩, rfl, rfl⟩⟩

/-- The composition of lists that are permutations of as many numbers; nothing of others. -/
def cmpB (ps qs : List Int) : Bool := eqI (ps.length : Int) (qs.length : Int) && (permB ps && permB qs)
def cmpL (ps qs : List Int) : List Int := match cmpB ps qs with | true => cmp ps qs | false => []
theorem cmpB_at {ps qs : List Int} (h : cmpB ps qs = true) : ps.length = qs.length ∧ permB ps = true ∧ permB qs = true := by
  unfold cmpB at h
  simp only [Bool.and_eq_true] at h
  exact ⟨by have := eqI_t.1 h.1; omega, h.2.1, h.2.2⟩
theorem cmp_ok {ps qs : List Int} (h : cmpB ps qs = true) : ∀ x ∈ ps, 0 ≤ x ∧ x.toNat < qs.length := fun x hx => by
  obtain ⟨h1, h2, h3⟩ := cmpB_at h
  have := (permB_spec.1 h2).1 x hx
  omega
theorem compose_impl (ps qs : List Int) (hb : 8 * ps.length ≤ 281474976710656) (hb2 : 8 * qs.length ≤ 281474976710656) : HSpec env.P 33 [rowSl ps, rowSl qs] [] (.hs 0 ((cmpL ps qs).map intLV).length) [.arr 3 1 ((cmpL ps qs).map intLV)] := by
  refine HSpec_of_code (E := env.x [101] 0) env_ok.x (fn := Try.f33) Try.func33 rfl Try.call33 _ _ _ _ ?_
  have hlen : ((ps.map intLV).length : Int) = (ps.length : Int) := by simp
  have hlen2 : ((qs.map intLV).length : Int) = (qs.length : Int) := by simp
  ((repeat ((conv => whnf); first | refine brT ?_ | refine brF ?_)); conv => whnf)
  intro _
  ((repeat ((conv => whnf); first | refine brT ?_ | refine brF ?_)); conv => whnf)
  intro _
  ((repeat ((conv => whnf); first | refine brT ?_ | refine brF ?_)); conv => whnf)
  rw [hlen, hlen2]
  have no : cmpB ps qs = false → cmpL ps qs = [] := fun h => by unfold cmpL; rw [h]
  (refine ⟨fun h1 => ?_, fun h1 => ?_⟩ <;> rw [h1])
  · rw [notB_t] at h1
    rw [no (by unfold cmpB; rw [h1]; rfl)]
    ((repeat ((conv => whnf); first | refine brT ?_ | refine brF ?_)); conv => whnf)
    exact ⟨[.hs 0 0], rfl, rfl, .nl [.tmp 0 [] false 3 1] [.old 1] ⟨⟨rfl, rfl, trivial⟩, ⟨rfl, rfl, trivial⟩, rfl⟩⟩
  rw [notB_f] at h1
  ((repeat ((conv => whnf); first | refine brT ?_ | refine brF ?_)); conv => whnf)
  refine ⟨_, isPerm_impl ps hb, ?_⟩
  ((repeat ((conv => whnf); first | refine brT ?_ | refine brF ?_)); conv => whnf)
  (refine ⟨fun h2 => ?_, fun h2 => ?_⟩ <;> rw [h2])
  · rw [notB_t] at h2
    rw [no (by unfold cmpB; rw [h1, h2]; rfl)]
    ((repeat ((conv => whnf); first | refine brT ?_ | refine brF ?_)); conv => whnf)
    exact ⟨[.hs 0 0], rfl, rfl, .nl [.tmp 0 [] false 3 1] [.old 1] ⟨⟨rfl, rfl, trivial⟩, ⟨rfl, rfl, trivial⟩, rfl⟩⟩
  rw [notB_f] at h2
  ((repeat ((conv => whnf); first | refine brT ?_ | refine brF ?_)); conv => whnf)
  refine ⟨_, isPerm_impl qs hb2, ?_⟩
  ((repeat ((conv => whnf); first | refine brT ?_ | refine brF ?_)); conv => whnf)
  (refine ⟨fun h3 => ?_, fun h3 => ?_⟩ <;> rw [h3])
  · rw [notB_t] at h3
    rw [no (by unfold cmpB; rw [h1, h2, h3]; rfl)]
    ((repeat ((conv => whnf); first | refine brT ?_ | refine brF ?_)); conv => whnf)
    exact ⟨[.hs 0 0], rfl, rfl, .nl [.tmp 0 [] false 3 1] [.old 1] ⟨⟨rfl, rfl, trivial⟩, ⟨rfl, rfl, trivial⟩, rfl⟩⟩
  rw [notB_f] at h3
  have hc : cmpB ps qs = true := by unfold cmpB; rw [h1, h2, h3]; rfl
  have e : cmpL ps qs = ps.map fun i => qs.getD i.toNat 0 := by unfold cmpL; rw [hc]; rfl
  rw [e]
  ((repeat ((conv => whnf); first | refine brT ?_ | refine brF ?_)); conv => whnf)
  refine ⟨[0], _, _, _, _, mapInt_h 102 qs ps (fun i => qs.getD i.toNat 0) (fun x hx => compose1_spec qs x (cmp_ok hc x hx).1 (cmp_ok hc x hx).2) hb, rfl, rfl, rfl, trivial, ?_⟩
  ((repeat ((conv => whnf); first | refine brT ?_ | refine brF ?_)); conv => whnf)
  exact ⟨[.hs 0 ((ps.map fun i => qs.getD i.toNat 0).map intLV).length], by simp [tupOf], rfl, .inr ⟨[.old 1], ⟨rfl, rfl, trivial⟩, ⟨rfl, rfl, trivial⟩, rfl⟩⟩
def cmpTo (ps qs : List Int) (k : Nat) : List LV := ((cmp ps qs).take k).map intLV
theorem l6Compose_h (ps qs : List Int) (h : ∀ x ∈ ps, 0 ≤ x ∧ x.toNat < qs.length) (hb : ps.length ≤ 1048576) : HSpec env.P 100 [rowSl ps, rowSl qs] [] (.hs 0 ((cmp ps qs).map intLV).length) [.arr 3 1 ((cmp ps qs).map intLV)] := by
  refine HSpec_of_code (E := env.x [] 0) env_ok.x (fn := Try.f100) Try.func100 rfl Try.call100 _ _ _ _ ?_
  have hp' : ps.length ≤ Go.maxLen := by unfold Go.maxLen; omega
  ((repeat ((conv => whnf); first | refine brT ?_ | refine brF ?_)); conv => whnf)
  intro _
  ((repeat ((conv => whnf); first | refine brT ?_ | refine brF ?_)); conv => whnf)
  refine loop_ruleR (α := Nat) [.old 0] (fun k => [(11, .int .i64 (k : Int)), (8, .undef), (5, .hs 0 (cmpTo ps qs k).length)]) (fun k => [.arr 3 1 (cmpTo ps qs k)]) (fun k => ps.length - k) (fun k => k ≤ ps.length) 0 (Nat.zero_le _) ?_ ?_
  · refine ⟨?_, ⟨rfl, rfl, trivial⟩, rfl⟩
    ((repeat ((conv => whnf); refine ⟨rfl, rfl, ?_⟩)); trivial)
  intro k hk
  ((repeat ((conv => whnf); first | refine brT ?_ | refine brF ?_)); conv => whnf)
  (refine ⟨fun h1 => ?_, fun h1 => ?_⟩ <;> rw [h1])
  · have hlt : k < ps.length := by rw [ltI_t] at h1; simp at h1; omega
    have e := step_i hlt hp'
    have hx := h ps[k] (List.getElem_mem hlt)
    have hcl : k < (cmp ps qs).length := by rw [cmp_len]; exact hlt
    have e2 : cmpTo ps qs k ++ [intLV (qs.getD ps[k].toNat 0)] = cmpTo ps qs (k + 1) := by
      unfold cmpTo
      rw [List.take_succ_eq_append_getElem hcl, List.map_append]
      simp [cmp]
    have hlen : (cmpTo ps qs k).length = k := by simp [cmpTo, cmp_len]; omega
    ((repeat ((conv => whnf); first | refine brT ?_ | refine brF ?_)); conv => whnf)
    refine ⟨k, intLV ps[k], rfl, by simp [hlt], rfl, ?_⟩
    ((repeat ((conv => whnf); first | refine brT ?_ | refine brF ?_)); conv => whnf)
    refine ⟨ps[k].toNat, intLV (qs.getD ps[k].toNat 0), by omega, by simp [hx.2], rfl, ?_⟩
    ((repeat ((conv => whnf); first | refine brT ?_ | refine brF ?_)); conv => whnf)
    refine ⟨rfl, rfl, ?_, ?_, ?_⟩
    · rw [List.length_append, hlen]; simp; unfold Go.maxLen; omega
    · rw [List.length_append, hlen]; simp; omega
    have e3 : LV.hs 0 (cmpTo ps qs k ++ [LV.int .i64 (qs.getD ps[k].toNat 0)]).length = LV.hs 0 (cmpTo ps qs (k + 1)).length := by rw [← e2]; rfl
    ((repeat ((conv => whnf); first | refine brT ?_ | refine brF ?_)); conv => whnf)
    refine round_endR [.old 2] (k + 1) hlt (by omega) ⟨?_, ⟨rfl, congrArg (Blk.arr 3 1) e2, trivial⟩, rfl⟩
    repeat ((conv => whnf); first | refine ⟨rfl, e, ?_⟩ | refine ⟨rfl, e3, ?_⟩ | refine ⟨rfl, rfl, ?_⟩)
    trivial
  · have h3 : k = ps.length := by rw [ltI_f] at h1; simp at h1; omega
    subst h3
    have e4 : cmpTo ps qs ps.length = (cmp ps qs).map intLV := by unfold cmpTo; rw [List.take_of_length_le (by rw [cmp_len]; exact Nat.le_refl _)]
    ((repeat ((conv => whnf); first | refine brT ?_ | refine brF ?_)); conv => whnf)
    rw [e4]
    exact ⟨[.hs 0 ((cmp ps qs).map intLV).length], rfl, rfl, .inl ⟨⟨rfl, trivial⟩, ⟨rfl, trivial⟩, rfl, rfl⟩⟩
theorem compose_spec (ps qs : List Int) (hb : ps.length ≤ 1048576) (hb2 : qs.length ≤ 1048576) : HSpec env.P 32 [rowSl ps, rowSl qs] [] (.hs 0 ((cmpL ps qs).map intLV).length) [.arr 3 1 ((cmpL ps qs).map intLV)] := by
  refine HSpec_of_code (E := env.x [100] 0) env_ok.x (fn := Try.f32) Try.func32 rfl Try.call32 _ _ _ _ ?_
  have hlen : ((ps.map intLV).length : Int) = (ps.length : Int) := by simp
  have hlen2 : ((qs.map intLV).length : Int) = (qs.length : Int) := by simp
  ((repeat ((conv => whnf); first | refine brT ?_ | refine brF ?_)); conv => whnf)
  intro _
  ((repeat ((conv => whnf); first | refine brT ?_ | refine brF ?_)); conv => whnf)
  intro _
  ((repeat ((conv => whnf); first | refine brT ?_ | refine brF ?_)); conv => whnf)
  rw [hlen, hlen2]
  have no : cmpB ps qs = false → cmpL ps qs = [] := fun h => by unfold cmpL; rw [h]
  (refine ⟨fun h1 => ?_, fun h1 => ?_⟩ <;> rw [h1])
  · rw [notB_t] at h1
    rw [no (by unfold cmpB; rw [h1]; rfl)]
    ((repeat ((conv => whnf); first | refine brT ?_ | refine brF ?_)); conv => whnf)
    exact ⟨[.hs 0 0], rfl, rfl, .nl [.tmp 0 [] false 3 1] [.old 0] ⟨⟨rfl, rfl, trivial⟩, ⟨rfl, rfl, trivial⟩, rfl⟩⟩
  rw [notB_f] at h1
  ((repeat ((conv => whnf); first | refine brT ?_ | refine brF ?_)); conv => whnf)
  refine ⟨_, isPerm_spec ps (by omega), ?_⟩
  ((repeat ((conv => whnf); first | refine brT ?_ | refine brF ?_)); conv => whnf)
  (refine ⟨fun h2 => ?_, fun h2 => ?_⟩ <;> rw [h2])
  · rw [notB_t] at h2
    rw [no (by unfold cmpB; rw [h1, h2]; rfl)]
    ((repeat ((conv => whnf); first | refine brT ?_ | refine brF ?_)); conv => whnf)
    exact ⟨[.hs 0 0], rfl, rfl, .nl [.tmp 0 [] false 3 1] [.old 0] ⟨⟨rfl, rfl, trivial⟩, ⟨rfl, rfl, trivial⟩, rfl⟩⟩
  rw [notB_f] at h2
  ((repeat ((conv => whnf); first | refine brT ?_ | refine brF ?_)); conv => whnf)
  refine ⟨_, isPerm_spec qs (by omega), ?_⟩
  ((repeat ((conv => whnf); first | refine brT ?_ | refine brF ?_)); conv => whnf)
  (refine ⟨fun h3 => ?_, fun h3 => ?_⟩ <;> rw [h3])
  · rw [notB_t] at h3
    rw [no (by unfold cmpB; rw [h1, h2, h3]; rfl)]
    ((repeat ((conv => whnf); first | refine brT ?_ | refine brF ?_)); conv => whnf)
    exact ⟨[.hs 0 0], rfl, rfl, .nl [.tmp 0 [] false 3 1] [.old 0] ⟨⟨rfl, rfl, trivial⟩, ⟨rfl, rfl, trivial⟩, rfl⟩⟩
  rw [notB_f] at h3
  have hc : cmpB ps qs = true := by unfold cmpB; rw [h1, h2, h3]; rfl
  have e : cmpL ps qs = cmp ps qs := by unfold cmpL; rw [hc]
  rw [e]
  ((repeat ((conv => whnf); first | refine brT ?_ | refine brF ?_)); conv => whnf)
  refine ⟨[], _, _, _, _, l6Compose_h ps qs (cmp_ok hc) hb, rfl, rfl, rfl, trivial, ?_⟩
  ((repeat ((conv => whnf); first | refine brT ?_ | refine brF ?_)); conv => whnf)
  exact ⟨[.hs 0 ((cmp ps qs).map intLV).length], by simp [tupOf], rfl, .inl ⟨⟨rfl, trivial⟩, ⟨rfl, trivial⟩, rfl, rfl⟩⟩
end Go.Proofs.Ytpfipmjmblgjfaa

namespace Go.Proofs.Ytpfipmjmblgjfaa
open Go.Lg
set_option maxHeartbeats 1600000
set_option maxRecDepth 10000
set_option linter.unusedVariables false
set_option linter.unusedSimpArgs false

/-- How many integers the rows have. -/
def tot (rows : List (List Int)) : Nat := (rows.map List.length).sum
theorem tot_cons (r : List Int) (rs : List (List Int)) : tot (r :: rs) = r.length + tot rs := by simp [tot]
def markRows : Int → List (List Int) → List (List Int)
  | _, [] => []
  | k, r :: rs => marks k r.length :: markRows (k + r.length) rs
theorem markRows_len : ∀ (k : Int) (rows : List (List Int)), (markRows k rows).length = rows.length
  | _, [] => rfl
  | k, r :: rs => by simp [markRows, markRows_len _ rs]
theorem markRows_snoc : ∀ (k : Int) (rs : List (List Int)) (r : List Int), markRows k (rs ++ [r]) = markRows k rs ++ [marks (k + tot rs) r.length]
  | k, [], r => by simp [markRows, tot]
  | k, x :: xs, r => by
    simp only [List.cons_append, markRows, markRows_snoc _ xs r, tot_cons]
    congr 3; congr 1; omega
theorem tot_snoc (rs : List (List Int)) (r : List Int) : tot (rs ++ [r]) = tot rs + r.length := by simp [tot]

/-- The first i rows marked. -/
def markT (k : Int) (rows : List (List Int)) (i : Nat) : List (List Int) := markRows k (rows.take i) ++ rows.drop i
theorem markT_len {k : Int} {rows : List (List Int)} {i : Nat} (h : i ≤ rows.length) : (markT k rows i).length = rows.length := by simp [markT, markRows_len]; omega
theorem markT_zero (k : Int) (rows : List (List Int)) : markT k rows 0 = rows := by simp [markT, markRows]
theorem markT_all (k : Int) (rows : List (List Int)) : markT k rows rows.length = markRows k rows := by simp [markT]
theorem markT_get {k : Int} {rows : List (List Int)} {i : Nat} (h : i < rows.length) : (markT k rows i)[i]? = some rows[i] := by
  unfold markT
  have hm : (markRows k (rows.take i)).length = i := by rw [markRows_len, List.length_take]; omega
  rw [List.getElem?_append_right (by omega), hm]
  simp [h]
theorem markT_set {k : Int} {rows : List (List Int)} {i : Nat} (h : i < rows.length) : (markT k rows i).set i (marks (k + tot (rows.take i)) rows[i].length) = markT k rows (i + 1) := by
  unfold markT
  have e : rows.take (i + 1) = rows.take i ++ [rows[i]] := by rw [List.take_succ_eq_append_getElem h]
  have hm : (markRows k (rows.take i)).length = i := by rw [markRows_len, List.length_take]; omega
  rw [e, markRows_snoc, List.drop_eq_getElem_cons h, List.set_append_right _ _ (by omega), hm, Nat.sub_self, List.set_cons_zero, List.append_assoc]
  rfl
theorem tot_take_succ {rows : List (List Int)} {i : Nat} (h : i < rows.length) : tot (rows.take (i + 1)) = tot (rows.take i) + rows[i].length := by
  rw [List.take_succ_eq_append_getElem h, tot_snoc]
theorem tot_take_le : ∀ (rows : List (List Int)) (i : Nat), tot (rows.take i) ≤ tot rows
  | [], i => by simp [tot]
  | r :: rs, 0 => by simp [tot]
  | r :: rs, i + 1 => by simp only [List.take_succ_cons, tot_cons]; have := tot_take_le rs i; omega

theorem markRows_get : ∀ (k : Int) (rows : List (List Int)) (i : Nat) (h : i < rows.length), (markRows k rows)[i]? = some (marks (k + tot (rows.take i)) rows[i].length)
  | k, r :: rs, 0, _ => by simp [markRows, tot]
  | k, r :: rs, i + 1, h => by
    simp only [markRows, List.getElem?_cons_succ, List.take_succ_cons, tot_cons, List.getElem_cons_succ]
    rw [markRows_get (k + r.length) rs i (by simpa using h)]
    congr 2; omega

end Go.Proofs.Ytpfipmjmblgjfaa
namespace Go.Proofs.Ytpfipmjmblgjfaa
open Go.Lg
set_option maxHeartbeats 1600000
set_option maxRecDepth 10000
set_option linter.unusedVariables false
set_option linter.unusedSimpArgs false

def rowFrom (size : Int) : Int → List Int → Bool
  | _, [] => true
  | last, b :: bs => match leI b last with | true => false | false => match leI size b with | true => false | false => rowFrom size b bs
def rowsOk (n : Int) (rows : List (List Int)) : Bool := rows.all fun r => rowFrom n (-1) r
def relOk (n : Int) (rows : List (List Int)) : Bool := leI 0 n && leI n 40 && eqI rows.length n && rowsOk n rows
end Go.Proofs.Ytpfipmjmblgjfaa