/- Contracts of functions of the program and of its model, told over readings. -/
import Derived.Test.YtplkockghigpdaaAWGC
import Derived.Test.YtplkockghigpdaaAWGB
import Derived.Test.YtplkockghigpdaaAWGA
import Derived.Test.YtplkockghigpdaaALgW
import Derived.Test.YtplkockghigpdaaChecked
import Derived.WalkKit
import Derived.Lib.Walk
import Derived.Laws.Bits64b
import Derived.Laws.CopyOwn
import Derived.Deep.RegionLaw
import Derived.Deep.LoopGhost
import Derived.Deep.OwnRows
import Derived.Deep.RegionHeld
import Derived.KernelRfl
import Derived.OwnWalk
namespace Go.Proofs.Ytplkockghigpdaa
open Go.Lg
set_option maxHeartbeats 3200000
set_option maxRecDepth 10000
set_option linter.unusedVariables false
set_option linter.unusedSimpArgs false

/-! ### In a valid family both ways of following a step are one -/
theorem par_one {ps : List Per} {i : Nat} {x sx born : Int} (h : parentOk (ps.take i) x sx born = true) :
    (x = -1 ∨ (0 ≤ x ∧ x.toNat < ps.length)) ∧ ∀ (b : Nat) (hb : b < ps.length), x = (b : Int) → ps[b].sex = sx := by
  unfold parentOk at h
  simp only [Bool.or_eq_true, eqI_t, Bool.and_eq_true, leI_t] at h
  rcases h with h | ⟨h0, h1⟩
  · exact ⟨.inl h, fun b hb e => by omega⟩
  · split at h1
    · cases h1
    · rename_i q hq
      obtain ⟨hl, e⟩ := List.getElem?_eq_some_iff.1 hq
      simp only [Bool.and_eq_true, eqI_t] at h1
      rw [List.length_take] at hl
      rw [List.getElem_take] at e
      refine ⟨.inr ⟨h0, by omega⟩, fun b hb ex => ?_⟩
      have eb : x.toNat = b := by omega
      subst eb
      rw [e]
      exact h1.1
theorem par_sex {ps : List Per} {us : List Uni} (h : famOk ps us = true) {i : Nat} (hi : i < ps.length) :
    ((ps[i].father = -1 ∨ (0 ≤ ps[i].father ∧ ps[i].father.toNat < ps.length)) ∧ ∀ (b : Nat) (hb : b < ps.length), ps[i].father = (b : Int) → ps[b].sex = 1) ∧
    ((ps[i].mother = -1 ∨ (0 ≤ ps[i].mother ∧ ps[i].mother.toNat < ps.length)) ∧ ∀ (b : Nat) (hb : b < ps.length), ps[i].mother = (b : Int) → ps[b].sex = 2) := by
  obtain ⟨_, _, hp, _, _⟩ := famOk_parts h
  obtain ⟨_, _, _, _, _, _, p1, p2⟩ := personOk_spec (personsTo_get hp hi hi)
  exact ⟨par_one p1, par_one p2⟩
/-- A father is no one's mother. -/
theorem far {ps : List Per} {us : List Uni} (h : famOk ps us = true) {i j : Nat} (hi : i < ps.length) (hj : j < ps.length) (e : ps[i].father ≠ -1) : ps[i].father ≠ ps[j].mother := by
  obtain ⟨⟨f1, f2⟩, _⟩ := par_sex h hi
  obtain ⟨_, _, m2⟩ := par_sex h hj
  intro k
  rcases f1 with f1 | ⟨f0, fl⟩
  · exact e f1
  · have a1 := f2 _ fl (by omega)
    have a2 := m2 _ fl (by omega)
    omega

theorem comN_two (x y : Per) : (eqI ((comN x y : Nat) : Int) 2) = (notB (eqI x.father (-1)) && (comB y x.father && (notB (eqI x.mother (-1)) && comB y x.mother))) := by
  show eqI (((([x.father, x.mother].filter notNone).filter (comB y)).length : Nat) : Int) 2 = (notNone x.father && (comB y x.father && (notNone x.mother && comB y x.mother)))
  cases h1 : notNone x.father <;> cases h2 : notNone x.mother <;> cases h3 : comB y x.father <;> cases h4 : comB y x.mother <;> simp [-List.filter_filter, List.filter_cons, h1, h2, h3, h4, eqI_d]
theorem sib_full {ps : List Per} {us : List Uni} (h : famOk ps us = true) {a b : Nat} (ha : a < ps.length) (hb : b < ps.length) : sibB ps[a] ps[b] a b = fullB ps[a] ps[b] a b := by
  unfold sibB fullB
  rw [comN_two]
  have f1 := (par_sex h ha).1.1
  have f2 := (par_sex h ha).2.1
  have f3 := fun e => far h ha hb e
  have f4 := fun e => far h hb ha e
  have f5 := fun e => far h ha ha e
  unfold comB
  simp only [eqI_d, leI_d, notB_d]
  generalize ps[a].father = F at *
  generalize ps[a].mother = M at *
  generalize ps[b].father = F' at *
  generalize ps[b].mother = M' at *
  rw [Bool.eq_iff_iff]
  simp only [Bool.and_eq_true, Bool.or_eq_true, Bool.not_eq_true', decide_eq_true_eq, decide_eq_false_iff_not]
  constructor
  · rintro ⟨n, h1, h2, h3, h4⟩
    refine ⟨n, by omega, by omega, ?_, ?_⟩
    · have := f3 h1; omega
    · by_cases e : F' = -1
      · omega
      · have := f4 e; omega
  · rintro ⟨n, h1, h2, h3, h4⟩
    exact ⟨n, by omega, by omega, by omega, by omega⟩
section
variable {ps : List Per} {us : List Uni} {s : Pr} (h : famOk ps us = true)
include h
end

end Go.Proofs.Ytplkockghigpdaa

namespace Go.Proofs.Ytplkockghigpdaa
open Go.Lg Go.Pm
set_option maxHeartbeats 3200000
set_option maxRecDepth 10000
set_option linter.unusedVariables false
set_option linter.unusedSimpArgs false

theorem cmpAge_spec (ps : List Per) (us : List Uni) (a b : Nat) (ha : a < ps.length) (hb : b < ps.length) : FSpec env.P 140 [natLV a, natLV b, .ref (famLV ps us)] (.int .i64 (ageI ps a b)) := by
  refine FSpec_of_code env_ok (fn := Try.f140) Try.func140 rfl Try.call140 _ _ ?_
  have h := compareAge_spec ps us (a : Int) (b : Int) (by omega) (by simpa using ha) (by omega) (by simpa using hb)
  ((repeat ((conv => whnf); first | refine brT ?_ | refine brF ?_)); conv => whnf)
  refine ⟨_, h, ?_⟩
  ((repeat ((conv => whnf); first | refine brT ?_ | refine brF ?_)); conv => whnf)
  exact ⟨rfl, rfl, List.nodup_nil⟩
theorem age_T {ps : List Per} (a b : Nat) (ha : a < ps.length) (hb : b < ps.length) : elT ps a b = decide (ageI ps (a : Int) (b : Int) < 0) := by
  rw [← elder_T ha hb, ← age_elder]; unfold ltI; rfl
theorem sortAge_h (ps : List Per) (us : List Uni) (xs : List Nat) (hx : ∀ x ∈ xs, x < ps.length) (hN : xs.length < 1073741824) :
    HSpec env.P 139 [.hs 1 xs.length, .clos 140 [.hp 0 0 []]] [.box (famLV ps us), .arr 3 1 (xs.map natLV)] (.tup []) [.box (famLV ps us), .arr 3 1 ((xs.mergeSort fun a b => !elT ps b a).map natLV)] :=
  sortFunc_h sortL rfl (by rfl) (fun a b ha hb => cmpAge_spec ps us a b ha hb) (fun a b ha hb => age_T a b ha hb) (elT_on ps ps.length) xs hx hN
def rowW (q : Nat → Bool) (k : Nat) : List LV := (wantL q k).map natLV
theorem people_h (ps : List Per) (us : List Uni) (F : Nat) (y z : LV) (q : Nat → Bool) (hl : ps.length ≤ 40) (hF : ∀ i, i < ps.length → FSpec env.P F [.int .i64 (i : Int), .ref y, .ref z] (.bool (q i))) :
    HSpec env.P 97 [famLV ps us, .clos F [.ref y, .ref z]] [] (.hs 0 (rowW q ps.length).length) [.arr 3 1 (rowW q ps.length)] := by
  refine HSpec_of_code (E := env.x [] 0) env_ok.x (fn := Try.f97) Try.func97 rfl Try.call97 _ _ _ _ ?_
  have hP : (ps.map Per.lv).length = ps.length := List.length_map ..
  have hp' : ps.length ≤ Go.maxLen := by unfold Go.maxLen; omega
  ((repeat ((conv => whnf); first | refine brT ?_ | refine brF ?_)); conv => whnf)
  intro _
  rw [hP]
  ((repeat ((conv => whnf); first | refine brT ?_ | refine brF ?_)); conv => whnf)
  refine loop_ruleR (α := Nat) [.old 0, .nil 3 1] (fun k => [(10, .int .i64 (k : Int)), (5, .hs 1 (rowW q k).length)]) (fun k => [.box (famLV ps us), .arr 3 1 (rowW q k)]) (fun k => ps.length - k) (fun k => k ≤ ps.length) 0 (Nat.zero_le _) ?_ ?_
  · refine ⟨?_, ⟨rfl, rfl, rfl, rfl, trivial⟩, rfl⟩
    ((repeat ((conv => whnf); refine ⟨rfl, rfl, ?_⟩)); trivial)
  intro k hk
  generalize hK : kk _ = KK
  ((repeat ((conv => whnf); first | refine brT ?_ | refine brF ?_)); conv => whnf)
  (refine ⟨fun g1 => ?_, fun g1 => ?_⟩ <;> rw [g1])
  · have hlt : k < ps.length := by rw [ltI_t] at g1; omega
    have e := step_i hlt hp'
    have hw := wantL_succ q k
    have hwl := wantL_len q (k + 1)
    ((repeat ((conv => whnf); first | refine brT ?_ | refine brF ?_)); conv => whnf)
    refine ⟨_, hF k hlt, ?_⟩
    ((repeat ((conv => whnf); first | refine brT ?_ | refine brF ?_)); conv => whnf)
    (refine ⟨fun g2 => ?_, fun g2 => ?_⟩ <;> rw [g2])
    · rw [g2] at hw
      have e2 : rowW q k ++ [LV.int .i64 (k : Int)] = rowW q (k + 1) := by unfold rowW; rw [hw, List.map_append]; rfl
      have hl1 : (rowW q (k + 1)).length ≤ k + 1 := by unfold rowW; rw [List.length_map]; exact hwl
      ((repeat ((conv => whnf); first | refine brT ?_ | refine brF ?_)); conv => whnf)
      refine ⟨rfl, rfl, ?_, ?_, ?_⟩
      · rw [e2]; unfold Go.maxLen; omega
      · rw [e2]; show (rowW q (k + 1)).length * 8 ≤ _; omega
      rw [e2]
      ((repeat ((conv => whnf); first | refine brT ?_ | refine brF ?_)); conv => whnf)
      subst hK
      refine round_endR [.old 0, .old 3] (k + 1) hlt (by omega) ⟨?_, ⟨rfl, rfl, rfl, rfl, trivial⟩, rfl⟩
      ((repeat ((conv => whnf); first | refine ⟨rfl, e, ?_⟩ | refine ⟨rfl, rfl, ?_⟩)); trivial)
    · rw [g2, List.append_nil] at hw
      have e2 : rowW q k = rowW q (k + 1) := by unfold rowW; rw [hw]
      have e3 : LV.hs 1 (rowW q k).length = LV.hs 1 (rowW q (k + 1)).length := by rw [e2]
      ((repeat ((conv => whnf); first | refine brT ?_ | refine brF ?_)); conv => whnf)
      subst hK
      refine round_endR [.old 0, .old 1] (k + 1) hlt (by omega) ⟨?_, ⟨rfl, rfl, rfl, congrArg (Blk.arr 3 1) e2, trivial⟩, rfl⟩
      repeat ((conv => whnf); first | refine ⟨rfl, e, ?_⟩ | refine ⟨rfl, e3, ?_⟩ | refine ⟨rfl, rfl, ?_⟩)
      trivial
  have h4 : k = ps.length := by rw [ltI_f] at g1; omega
  subst h4
  subst hK
  ((repeat ((conv => whnf); first | refine brT ?_ | refine brF ?_)); conv => whnf)
  exact ⟨[.hs 0 (rowW q ps.length).length], rfl, rfl, .inr ⟨[.old 1], ⟨rfl, rfl, trivial⟩, ⟨rfl, rfl, trivial⟩, rfl⟩⟩
theorem flats_rowW (q : Nat → Bool) (n : Nat) : flatsB (rowW q n) = true := by
  unfold rowW
  induction wantL q n with
  | nil => rfl
  | cons x l ih => simp [flatsB, flatB, natLV]; exact ih
theorem eldest_h (ps : List Per) (us : List Uni) (F : Nat) (y z : LV) (q : Nat → Bool) (hl : ps.length ≤ 40) (hF : ∀ i, i < ps.length → FSpec env.P F [.int .i64 (i : Int), .ref y, .ref z] (.bool (q i))) :
    HSpec env.P 83 [famLV ps us, .clos F [.ref y, .ref z]] [] (.hs 0 ((eldL ps q ps.length).map natLV).length) [.arr 3 1 ((eldL ps q ps.length).map natLV)] := by
  refine HSpec_of_code (E := env.x [97, 139] 0) env_ok.x (fn := Try.f83) Try.func83 rfl Try.call83 _ _ _ _ ?_
  have hwl := wantL_len q ps.length
  have hso := sortAge_h ps us (wantL q ps.length) (fun x hx => wantL_lt hx) (by omega)
  have er : (rowW q ps.length).length = (wantL q ps.length).length := by unfold rowW; rw [List.length_map]
  have hpw := people_h ps us F y z q hl hF
  rw [er] at hpw
  ((repeat ((conv => whnf); first | refine brT ?_ | refine brF ?_)); conv => whnf)
  refine ⟨[], _, _, _, _, hpw, rfl, rfl, rfl, trivial, ?_⟩
  ((repeat ((conv => whnf); first | refine brT ?_ | refine brF ?_)); conv => whnf)
  refine ⟨[0, 1], _, _, _, _, hso, rfl, rfl, rfl, trivial, ?_⟩
  ((repeat ((conv => whnf); first | refine brT ?_ | refine brF ?_)); conv => whnf)
  have el : (wantL q ps.length).length = ((eldL ps q ps.length).map natLV).length := by unfold eldL; rw [List.length_map, List.length_mergeSort]
  exact ⟨[.hs 0 (wantL q ps.length).length], by simp only [tupOf]; rw [el], rfl, .inr ⟨[.old 1], ⟨rfl, rfl, trivial⟩, ⟨rfl, rfl, trivial⟩, rfl⟩⟩
/-! ### Children and siblings -/
def chQ (ps : List Per) (p : Int) (i : Nat) : Bool := match ps[i]? with | some x => chB x p | none => false
def fullQ (ps : List Per) (p i : Nat) : Bool := match ps[p]?, ps[i]? with | some x, some y => fullB x y p i | _, _ => false
def halfB (x y : Per) : Bool := (leI 0 x.father && eqI x.father y.father) || (leI 0 x.mother && eqI x.mother y.mother)
def halfQ (ps : List Per) (p i : Nat) : Bool := match ps[p]?, ps[i]? with | some x, some y => notB (eqI (i : Int) (p : Int)) && (notB (fullB x y p i) && halfB x y) | _, _ => false
theorem children1_spec (ps : List Per) (us : List Uni) (p : Int) (i : Nat) (hi : i < ps.length) : FSpec env.P 84 [.int .i64 (i : Int), .ref (famLV ps us), .ref (.int .i64 p)] (.bool (chQ ps p i)) := by
  refine FSpec_of_code env_ok (fn := Try.f84) Try.func84 rfl Try.call84 _ _ ?_
  have hq : chQ ps p i = chB ps[i] p := by simp [chQ, hi]
  have hg : (ps.map Per.lv)[i]? = some ps[i].lv := by simp [hi]
  rw [hq]
  ((repeat ((conv => whnf); first | refine brT ?_ | refine brF ?_)); conv => whnf)
  refine ⟨true, by kernel_rfl, ?_⟩
  ((repeat ((conv => whnf); first | refine brT ?_ | refine brF ?_)); conv => whnf)
  refine ⟨i, _, rfl, hg, rfl, ?_⟩
  ((repeat ((conv => whnf); first | refine brT ?_ | refine brF ?_)); conv => whnf)
  (refine ⟨fun g => ?_, fun g => ?_⟩ <;> rw [g])
  · ((repeat ((conv => whnf); first | refine brT ?_ | refine brF ?_)); conv => whnf)
    refine fin ?_; simp [chB, g]
  · ((repeat ((conv => whnf); first | refine brT ?_ | refine brF ?_)); conv => whnf)
    refine ⟨i, _, rfl, hg, rfl, ?_⟩
    ((repeat ((conv => whnf); first | refine brT ?_ | refine brF ?_)); conv => whnf)
    refine fin ?_; simp [chB, g]
theorem full1_spec (ps : List Per) (us : List Uni) (h : famOk ps us = true) (p i : Nat) (hp : p < ps.length) (hi : i < ps.length) : FSpec env.P 91 [.int .i64 (i : Int), .ref (famLV ps us), .ref (.int .i64 (p : Int))] (.bool (fullQ ps p i)) := by
  refine FSpec_of_code env_ok (fn := Try.f91) Try.func91 rfl Try.call91 _ _ ?_
  have hq : fullQ ps p i = fullB ps[p] ps[i] p i := by simp [fullQ, hp, hi]
  rw [hq, ← sib_full h hp hi]
  ((repeat ((conv => whnf); first | refine brT ?_ | refine brF ?_)); conv => whnf)
  refine ⟨_, areFullSiblings_spec ps us p i hp hi, ?_⟩
  ((repeat ((conv => whnf); first | refine brT ?_ | refine brF ?_)); conv => whnf)
  exact fin rfl
theorem comN_pos (x y : Per) : ltI 0 ((comN x y : Nat) : Int) = ((notB (eqI x.father (-1)) && comB y x.father) || (notB (eqI x.mother (-1)) && comB y x.mother)) := by
  unfold comN known notNone
  cases h1 : notB (eqI x.father (-1)) <;> cases h2 : notB (eqI x.mother (-1)) <;> cases h3 : comB y x.father <;> cases h4 : comB y x.mother <;>
    simp [List.filter, h1, h2, h3, h4, ltI]
theorem half_eq {ps : List Per} {us : List Uni} (h : famOk ps us = true) {a b : Nat} (ha : a < ps.length) (hb : b < ps.length) : ltI 0 ((comN ps[a] ps[b] : Nat) : Int) = halfB ps[a] ps[b] := by
  rw [comN_pos]
  have f1 := (par_sex h ha).1.1
  have f2 := (par_sex h ha).2.1
  have f3 := fun e => far h ha hb e
  have f4 := fun e => far h hb ha e
  have f6 := (par_sex h hb).1.1
  unfold halfB comB
  simp only [eqI_d, leI_d, notB_d]
  generalize ps[a].father = F at *
  generalize ps[a].mother = M at *
  generalize ps[b].father = F' at *
  generalize ps[b].mother = M' at *
  rw [Bool.eq_iff_iff]
  simp only [Bool.and_eq_true, Bool.or_eq_true, Bool.not_eq_true', decide_eq_true_eq, decide_eq_false_iff_not]
  constructor
  · rintro (⟨h1, h2⟩ | ⟨h1, h2⟩)
    · have := f3 h1; omega
    · by_cases e : F' = -1
      · omega
      · have := f4 e; omega
  · rintro (⟨h1, h2⟩ | ⟨h1, h2⟩)
    · exact .inl ⟨by omega, .inl (by omega)⟩
    · exact .inr ⟨by omega, .inr (by omega)⟩
theorem half1_spec (ps : List Per) (us : List Uni) (h : famOk ps us = true) (p i : Nat) (hp : p < ps.length) (hi : i < ps.length) : FSpec env.P 93 [.int .i64 (i : Int), .ref (.int .i64 (p : Int)), .ref (famLV ps us)] (.bool (halfQ ps p i)) := by
  refine FSpec_of_code env_ok (fn := Try.f93) Try.func93 rfl Try.call93 _ _ ?_
  have hq : halfQ ps p i = (notB (eqI (i : Int) (p : Int)) && (notB (fullB ps[p] ps[i] p i) && halfB ps[p] ps[i])) := by simp [halfQ, hp, hi]
  rw [hq]
  have h1 := parentsInCommon_spec ps us p i hp hi
  have h2 := areFullSiblings_spec ps us p i hp hi
  rw [sib_full h hp hi] at h2
  ((repeat ((conv => whnf); first | refine brT ?_ | refine brF ?_)); conv => whnf)
  (refine ⟨fun g1 => ?_, fun g1 => ?_⟩ <;> rw [g1])
  · ((repeat ((conv => whnf); first | refine brT ?_ | refine brF ?_)); conv => whnf)
    refine ⟨_, h1, ?_⟩
    ((repeat ((conv => whnf); first | refine brT ?_ | refine brF ?_)); conv => whnf)
    rw [half_eq h hp hi]
    (refine ⟨fun g2 => ?_, fun g2 => ?_⟩ <;> rw [g2])
    · ((repeat ((conv => whnf); first | refine brT ?_ | refine brF ?_)); conv => whnf)
      refine ⟨_, h2, ?_⟩
      ((repeat ((conv => whnf); first | refine brT ?_ | refine brF ?_)); conv => whnf)
      refine fin ?_; simp
    · ((repeat ((conv => whnf); first | refine brT ?_ | refine brF ?_)); conv => whnf)
      refine fin ?_; simp
  · ((repeat ((conv => whnf); first | refine brT ?_ | refine brF ?_)); conv => whnf)
    refine fin ?_; simp
def kidsL (ps : List Per) (us : List Uni) (p : Int) : List Nat := match hasP ps us p with | true => eldL ps (chQ ps p) ps.length | false => []
def fullL (ps : List Per) (us : List Uni) (p : Int) : List Nat := match hasP ps us p with | true => eldL ps (fullQ ps p.toNat) ps.length | false => []
def halfL (ps : List Per) (us : List Uni) (p : Int) : List Nat := match hasP ps us p with | true => eldL ps (halfQ ps p.toNat) ps.length | false => []
theorem flats_nats : ∀ xs : List Nat, flatsB (xs.map natLV) = true
  | [] => rfl
  | x :: xs => by simp [flatsB, flatB, natLV]; exact flats_nats xs
theorem kids_impl (ps : List Per) (us : List Uni) (p : Int) : HSpec env.P 24 [famLV ps us, .int .i64 p] [] (.hs 0 ((kidsL ps us p).map natLV).length) [.arr 3 1 ((kidsL ps us p).map natLV)] := by
  refine HSpec_of_code (E := env.x [83] 0) env_ok.x (fn := Try.f24) Try.func24 rfl Try.call24 _ _ _ _ ?_
  unfold kidsL
  ((repeat ((conv => whnf); first | refine brT ?_ | refine brF ?_)); conv => whnf)
  refine ⟨_, hasPerson_spec ps us p, ?_⟩
  ((repeat ((conv => whnf); first | refine brT ?_ | refine brF ?_)); conv => whnf)
  cases h : hasP ps us p
  · rw [show notB false = true by simp [notB]]
    ((repeat ((conv => whnf); first | refine brT ?_ | refine brF ?_)); conv => whnf)
    exact ⟨[.hs 0 0], rfl, rfl, .nl [.tmp 0 [] false 3 1] [.old 2] ⟨⟨rfl, rfl, trivial⟩, ⟨rfl, rfl, trivial⟩, rfl⟩⟩
  rw [show notB true = false by simp [notB]]
  obtain ⟨p0, pl, hl, _⟩ := hasP_in h
  ((repeat ((conv => whnf); first | refine brT ?_ | refine brF ?_)); conv => whnf)
  refine ⟨[], _, _, _, _, eldest_h ps us 84 (famLV ps us) (.int .i64 p) (chQ ps p) hl (fun i hi => children1_spec ps us p i hi), rfl, rfl, rfl, ⟨rfl, flats_nats _, trivial⟩, ?_⟩
  ((repeat ((conv => whnf); first | refine brT ?_ | refine brF ?_)); conv => whnf)
  exact ⟨[.hs 0 ((eldL ps (chQ ps p) ps.length).map natLV).length], rfl, rfl, .inr ⟨[.old 2], ⟨rfl, rfl, trivial⟩, ⟨rfl, rfl, trivial⟩, rfl⟩⟩
theorem full_impl (ps : List Per) (us : List Uni) (p : Int) : HSpec env.P 31 [famLV ps us, .int .i64 p] [] (.hs 0 ((fullL ps us p).map natLV).length) [.arr 3 1 ((fullL ps us p).map natLV)] := by
  refine HSpec_of_code (E := env.x [83] 0) env_ok.x (fn := Try.f31) Try.func31 rfl Try.call31 _ _ _ _ ?_
  unfold fullL
  ((repeat ((conv => whnf); first | refine brT ?_ | refine brF ?_)); conv => whnf)
  refine ⟨_, hasPerson_spec ps us p, ?_⟩
  ((repeat ((conv => whnf); first | refine brT ?_ | refine brF ?_)); conv => whnf)
  cases h : hasP ps us p
  · rw [show notB false = true by simp [notB]]
    ((repeat ((conv => whnf); first | refine brT ?_ | refine brF ?_)); conv => whnf)
    exact ⟨[.hs 0 0], rfl, rfl, .nl [.tmp 0 [] false 3 1] [.old 2] ⟨⟨rfl, rfl, trivial⟩, ⟨rfl, rfl, trivial⟩, rfl⟩⟩
  rw [show notB true = false by simp [notB]]
  obtain ⟨p0, pl, hl, _⟩ := hasP_in h
  have hf := (hasP_lt h).2.2
  obtain ⟨n, rfl⟩ : ∃ n : Nat, p = (n : Int) := ⟨p.toNat, by omega⟩
  simp only [Int.toNat_natCast] at pl
  ((repeat ((conv => whnf); first | refine brT ?_ | refine brF ?_)); conv => whnf)
  rw [Int.toNat_natCast]
  refine ⟨[], _, _, _, _, eldest_h ps us 91 (famLV ps us) (.int .i64 (n : Int)) (fullQ ps n) hl (fun i hi => full1_spec ps us hf n i pl hi), rfl, rfl, rfl, ⟨rfl, flats_nats _, trivial⟩, ?_⟩
  ((repeat ((conv => whnf); first | refine brT ?_ | refine brF ?_)); conv => whnf)
  exact ⟨[.hs 0 ((eldL ps (fullQ ps n) ps.length).map natLV).length], rfl, rfl, .inr ⟨[.old 2], ⟨rfl, rfl, trivial⟩, ⟨rfl, rfl, trivial⟩, rfl⟩⟩
theorem half_impl (ps : List Per) (us : List Uni) (p : Int) : HSpec env.P 33 [famLV ps us, .int .i64 p] [] (.hs 0 ((halfL ps us p).map natLV).length) [.arr 3 1 ((halfL ps us p).map natLV)] := by
  refine HSpec_of_code (E := env.x [83] 0) env_ok.x (fn := Try.f33) Try.func33 rfl Try.call33 _ _ _ _ ?_
  unfold halfL
  ((repeat ((conv => whnf); first | refine brT ?_ | refine brF ?_)); conv => whnf)
  refine ⟨_, hasPerson_spec ps us p, ?_⟩
  ((repeat ((conv => whnf); first | refine brT ?_ | refine brF ?_)); conv => whnf)
  cases h : hasP ps us p
  · rw [show notB false = true by simp [notB]]
    ((repeat ((conv => whnf); first | refine brT ?_ | refine brF ?_)); conv => whnf)
    exact ⟨[.hs 0 0], rfl, rfl, .nl [.tmp 0 [] false 3 1] [.old 2] ⟨⟨rfl, rfl, trivial⟩, ⟨rfl, rfl, trivial⟩, rfl⟩⟩
  rw [show notB true = false by simp [notB]]
  obtain ⟨p0, pl, hl, _⟩ := hasP_in h
  have hf := (hasP_lt h).2.2
  obtain ⟨n, rfl⟩ : ∃ n : Nat, p = (n : Int) := ⟨p.toNat, by omega⟩
  simp only [Int.toNat_natCast] at pl
  ((repeat ((conv => whnf); first | refine brT ?_ | refine brF ?_)); conv => whnf)
  rw [Int.toNat_natCast]
  refine ⟨[], _, _, _, _, eldest_h ps us 93 (.int .i64 (n : Int)) (famLV ps us) (halfQ ps n) hl (fun i hi => half1_spec ps us hf n i pl hi), rfl, rfl, rfl, ⟨rfl, flats_nats _, trivial⟩, ?_⟩
  ((repeat ((conv => whnf); first | refine brT ?_ | refine brF ?_)); conv => whnf)
  exact ⟨[.hs 0 ((eldL ps (halfQ ps n) ps.length).map natLV).length], rfl, rfl, .inr ⟨[.old 2], ⟨rfl, rfl, trivial⟩, ⟨rfl, rfl, trivial⟩, rfl⟩⟩
end Go.Proofs.Ytplkockghigpdaa


namespace Go.Proofs.Ytplkockghigpdaa
open Go.Lg
set_option maxHeartbeats 6400000
set_option maxRecDepth 10000
set_option linter.unusedVariables false
set_option linter.unusedSimpArgs false

theorem WeakS.idn {n0 : Nat} {ts : List LV} {H : List Blk} (h1 : wk ts ts) (h2 : wkH n0 H H) (h3 : (scs (below H.length) ts && H.all (scB (below H.length))) = true) : Weak n0 ts H ts H := by
  simp only [Bool.and_eq_true] at h3
  exact .inl ⟨h1, h2, h3.1, h3.2⟩
end Go.Proofs.Ytplkockghigpdaa

namespace Go.Proofs.Ytplkockghigpdaa
open Go.Lg
set_option maxHeartbeats 1600000
set_option maxRecDepth 10000
set_option linter.unusedVariables false
set_option linter.unusedSimpArgs false

/-! ### Rows of texts -/
end Go.Proofs.Ytplkockghigpdaa

namespace Go.Proofs.Ytplkockghigpdaa
open Go.Lg
set_option maxHeartbeats 3200000
set_option maxRecDepth 10000
set_option linter.unusedVariables false
set_option linter.unusedSimpArgs false

end Go.Proofs.Ytplkockghigpdaa

namespace Go.Proofs.Ytplkockghigpdaa
open Go.Lg
set_option maxHeartbeats 3200000
set_option maxRecDepth 10000
set_option linter.unusedVariables false
set_option linter.unusedSimpArgs false

end Go.Proofs.Ytplkockghigpdaa

namespace Go.Proofs.Ytplkockghigpdaa
open Go.Lg
set_option maxHeartbeats 3200000
set_option maxRecDepth 10000
set_option linter.unusedVariables false
set_option linter.unusedSimpArgs false

end Go.Proofs.Ytplkockghigpdaa

namespace Go.Proofs.Ytplkockghigpdaa
open Go.Lg
set_option maxHeartbeats 3200000
set_option maxRecDepth 10000
set_option linter.unusedVariables false
set_option linter.unusedSimpArgs false

end Go.Proofs.Ytplkockghigpdaa

namespace Go.Proofs.Ytplkockghigpdaa
open Go.Lg
set_option maxHeartbeats 6400000
set_option maxRecDepth 10000
set_option linter.unusedVariables false
set_option linter.unusedSimpArgs false

end Go.Proofs.Ytplkockghigpdaa

namespace Go.Proofs.Ytplkockghigpdaa
open Go.Lg Go.Pm
set_option maxHeartbeats 3200000
set_option maxRecDepth 10000
set_option linter.unusedVariables false
set_option linter.unusedSimpArgs false

theorem l1Children_h (ps : List Per) (us : List Uni) (p : Int) (hl : ps.length ≤ 40) :
    HSpec env.P 79 [famLV ps us, .int .i64 p] [] (.hs 0 ((eldL ps (chQ ps p) ps.length).map natLV).length) [.arr 3 1 ((eldL ps (chQ ps p) ps.length).map natLV)] := by
  refine HSpec_of_code (E := env.x [90] 0) env_ok.x (fn := Try.f79) Try.func79 rfl Try.call79 _ _ _ _ ?_
  have hP : (ps.map Per.lv).length = ps.length := List.length_map ..
  have hp' : ps.length ≤ Go.maxLen := by unfold Go.maxLen; omega
  rw [← bySt_eld]
  ((repeat ((conv => whnf); first | refine brT ?_ | refine brF ?_)); conv => whnf)
  intro _
  rw [hP]
  ((repeat ((conv => whnf); first | refine brT ?_ | refine brF ?_)); conv => whnf)
  refine loop_ruleR (α := Nat) [.old 0, .old 1] (fun k => [(12, .int .i64 (k : Int)), (8, .undef), (5, .hs 1 ((bySt ps (chQ ps p) k).map natLV).length)]) (fun k => [.box (famLV ps us), .arr 3 1 ((bySt ps (chQ ps p) k).map natLV)]) (fun k => ps.length - k) (fun k => k ≤ ps.length) 0 (Nat.zero_le _) ?_ ?_
  · refine ⟨?_, ⟨rfl, rfl, rfl, rfl, trivial⟩, rfl⟩
    ((repeat ((conv => whnf); refine ⟨rfl, rfl, ?_⟩)); trivial)
  intro k hk
  generalize hK : kk _ = KK
  have hbl := bySt_len ps (chQ ps p) k
  ((repeat ((conv => whnf); first | refine brT ?_ | refine brF ?_)); conv => whnf)
  (refine ⟨fun g1 => ?_, fun g1 => ?_⟩ <;> rw [g1])
  · have hlt : k < ps.length := by rw [ltI_t] at g1; omega
    have e := step_i hlt hp'
    have hg : (ps.map Per.lv)[k]? = some ps[k].lv := by simp [hlt]
    have hQ : chQ ps p k = (eqI ps[k].father p || eqI ps[k].mother p) := by simp [chQ, hlt, chB]
    ((repeat ((conv => whnf); first | refine brT ?_ | refine brF ?_)); conv => whnf)
    refine ⟨k, _, rfl, hg, rfl, ?_⟩
    ((repeat ((conv => whnf); first | refine brT ?_ | refine brF ?_)); conv => whnf)
    (refine ⟨fun g2 => ?_, fun g2 => ?_⟩ <;> rw [g2])
    · have hq : chQ ps p k = true := by rw [hQ, g2]; rfl
      ((repeat ((conv => whnf); first | refine brT ?_ | refine brF ?_)); conv => whnf)
      refine ⟨[], _, _, _, _, l1ByAge_h ps us (bySt ps (chQ ps p) k) k hlt (fun x hx => Nat.lt_trans (bySt_lt hx) hlt) (by omega), rfl, ?_⟩
      ((repeat ((conv => whnf); first | refine brT ?_ | refine brF ?_)); conv => whnf)
      refine ⟨rfl, ?_⟩
      ((repeat ((conv => whnf); first | refine brT ?_ | refine brF ?_)); conv => whnf)
      refine ⟨rfl, rfl, ⟨rfl, flats_nats _, trivial⟩, ?_⟩
      ((repeat ((conv => whnf); first | refine brT ?_ | refine brF ?_)); conv => whnf)
      subst hK
      have e2 : insA ps k (bySt ps (chQ ps p) k) = bySt ps (chQ ps p) (k + 1) := by simp [bySt, hq]
      have e3 : LV.hs 1 ((insA ps k (bySt ps (chQ ps p) k)).map natLV).length = LV.hs 1 ((bySt ps (chQ ps p) (k + 1)).map natLV).length := by rw [e2]
      refine round_endR [.old 0, .old 3] (k + 1) hlt (by omega) ⟨?_, ⟨rfl, rfl, rfl, congrArg (fun l : List Nat => Blk.arr 3 1 (l.map natLV)) e2, trivial⟩, rfl⟩
      repeat ((conv => whnf); first | refine ⟨rfl, e, ?_⟩ | refine ⟨rfl, e3, ?_⟩ | refine ⟨rfl, rfl, ?_⟩)
      trivial
    · ((repeat ((conv => whnf); first | refine brT ?_ | refine brF ?_)); conv => whnf)
      (refine ⟨fun g3 => ?_, fun g3 => ?_⟩ <;> rw [g3])
      · have hq : chQ ps p k = true := by rw [hQ, g3]; simp
        ((repeat ((conv => whnf); first | refine brT ?_ | refine brF ?_)); conv => whnf)
        refine ⟨[], _, _, _, _, l1ByAge_h ps us (bySt ps (chQ ps p) k) k hlt (fun x hx => Nat.lt_trans (bySt_lt hx) hlt) (by omega), rfl, ?_⟩
        ((repeat ((conv => whnf); first | refine brT ?_ | refine brF ?_)); conv => whnf)
        refine ⟨rfl, ?_⟩
        ((repeat ((conv => whnf); first | refine brT ?_ | refine brF ?_)); conv => whnf)
        refine ⟨rfl, rfl, ⟨rfl, flats_nats _, trivial⟩, ?_⟩
        ((repeat ((conv => whnf); first | refine brT ?_ | refine brF ?_)); conv => whnf)
        subst hK
        have e2 : insA ps k (bySt ps (chQ ps p) k) = bySt ps (chQ ps p) (k + 1) := by simp [bySt, hq]
        have e3 : LV.hs 1 ((insA ps k (bySt ps (chQ ps p) k)).map natLV).length = LV.hs 1 ((bySt ps (chQ ps p) (k + 1)).map natLV).length := by rw [e2]
        refine round_endR [.old 0, .old 3] (k + 1) hlt (by omega) ⟨?_, ⟨rfl, rfl, rfl, congrArg (fun l : List Nat => Blk.arr 3 1 (l.map natLV)) e2, trivial⟩, rfl⟩
        repeat ((conv => whnf); first | refine ⟨rfl, e, ?_⟩ | refine ⟨rfl, e3, ?_⟩ | refine ⟨rfl, rfl, ?_⟩)
        trivial
      · have hq : chQ ps p k = false := by rw [hQ, g2, g3]; rfl
        have e2 : bySt ps (chQ ps p) k = bySt ps (chQ ps p) (k + 1) := by simp [bySt, hq]
        have e3 : LV.hs 1 ((bySt ps (chQ ps p) k).map natLV).length = LV.hs 1 ((bySt ps (chQ ps p) (k + 1)).map natLV).length := by rw [← e2]
        ((repeat ((conv => whnf); first | refine brT ?_ | refine brF ?_)); conv => whnf)
        subst hK
        refine round_endR [.old 0, .old 1] (k + 1) hlt (by omega) ⟨?_, ⟨rfl, rfl, rfl, congrArg (fun l : List Nat => Blk.arr 3 1 (l.map natLV)) e2, trivial⟩, rfl⟩
        repeat ((conv => whnf); first | refine ⟨rfl, e, ?_⟩ | refine ⟨rfl, e3, ?_⟩ | refine ⟨rfl, rfl, ?_⟩)
        trivial
  have h4 : k = ps.length := by rw [ltI_f] at g1; omega
  subst h4
  subst hK
  ((repeat ((conv => whnf); first | refine brT ?_ | refine brF ?_)); conv => whnf)
  exact ⟨[.hs 0 ((bySt ps (chQ ps p) ps.length).map natLV).length], rfl, rfl, .inr ⟨[.old 1], ⟨rfl, rfl, trivial⟩, ⟨rfl, rfl, trivial⟩, rfl⟩⟩
theorem kids_spec (ps : List Per) (us : List Uni) (p : Int) : HSpec env.P 22 [famLV ps us, .int .i64 p] [] (.hs 0 ((kidsL ps us p).map natLV).length) [.arr 3 1 ((kidsL ps us p).map natLV)] := by
  refine HSpec_of_code (E := env.x [79] 0) env_ok.x (fn := Try.f22) Try.func22 rfl Try.call22 _ _ _ _ ?_
  unfold kidsL
  ((repeat ((conv => whnf); first | refine brT ?_ | refine brF ?_)); conv => whnf)
  refine ⟨_, l1Has_spec ps us p, ?_⟩
  ((repeat ((conv => whnf); first | refine brT ?_ | refine brF ?_)); conv => whnf)
  cases h : hasP ps us p
  · rw [show notB false = true by simp [notB]]
    ((repeat ((conv => whnf); first | refine brT ?_ | refine brF ?_)); conv => whnf)
    exact ⟨[.hs 0 0], rfl, rfl, .nl [.tmp 0 [] false 3 1] [.old 1] ⟨⟨rfl, rfl, trivial⟩, ⟨rfl, rfl, trivial⟩, rfl⟩⟩
  rw [show notB true = false by simp [notB]]
  obtain ⟨p0, pl, hl, _⟩ := hasP_in h
  ((repeat ((conv => whnf); first | refine brT ?_ | refine brF ?_)); conv => whnf)
  refine ⟨[], _, _, _, _, l1Children_h ps us p hl, rfl, rfl, rfl, trivial, ?_⟩
  ((repeat ((conv => whnf); first | refine brT ?_ | refine brF ?_)); conv => whnf)
  exact ⟨[.hs 0 ((eldL ps (chQ ps p) ps.length).map natLV).length], rfl, rfl, .inr ⟨[.old 1], ⟨rfl, rfl, trivial⟩, ⟨rfl, rfl, trivial⟩, rfl⟩⟩
theorem full_spec (ps : List Per) (us : List Uni) (p : Int) : HSpec env.P 30 [famLV ps us, .int .i64 p] [] (.hs 0 ((fullL ps us p).map natLV).length) [.arr 3 1 ((fullL ps us p).map natLV)] := by
  refine HSpec_of_code (E := env.x [90] 0) env_ok.x (fn := Try.f30) Try.func30 rfl Try.call30 _ _ _ _ ?_
  unfold fullL
  ((repeat ((conv => whnf); first | refine brT ?_ | refine brF ?_)); conv => whnf)
  refine ⟨_, l1Has_spec ps us p, ?_⟩
  ((repeat ((conv => whnf); first | refine brT ?_ | refine brF ?_)); conv => whnf)
  cases h : hasP ps us p
  · rw [show notB false = true by simp [notB]]
    ((repeat ((conv => whnf); first | refine brT ?_ | refine brF ?_)); conv => whnf)
    exact ⟨[.hs 0 0], rfl, rfl, .nl [.tmp 0 [] false 3 1] [.old 1] ⟨⟨rfl, rfl, trivial⟩, ⟨rfl, rfl, trivial⟩, rfl⟩⟩
  rw [show notB true = false by simp [notB]]
  obtain ⟨p0, pl, hl, _⟩ := hasP_in h
  obtain ⟨n, rfl⟩ : ∃ n : Nat, p = (n : Int) := ⟨p.toNat, by omega⟩
  simp only [Int.toNat_natCast] at pl
  rw [Int.toNat_natCast]
  have hP : (ps.map Per.lv).length = ps.length := List.length_map ..
  have hp' : ps.length ≤ Go.maxLen := by unfold Go.maxLen; omega
  rw [← bySt_eld]
  ((repeat ((conv => whnf); first | refine brT ?_ | refine brF ?_)); conv => whnf)
  intro _
  rw [hP]
  ((repeat ((conv => whnf); first | refine brT ?_ | refine brF ?_)); conv => whnf)
  refine loop_ruleR (α := Nat) [.old 0, .old 1] (fun k => [(15, .int .i64 (k : Int)), (11, .undef), (5, .hs 1 ((bySt ps (fullQ ps n) k).map natLV).length)]) (fun k => [.box (famLV ps us), .arr 3 1 ((bySt ps (fullQ ps n) k).map natLV)]) (fun k => ps.length - k) (fun k => k ≤ ps.length) 0 (Nat.zero_le _) ?_ ?_
  · refine ⟨?_, ⟨rfl, rfl, rfl, rfl, trivial⟩, rfl⟩
    ((repeat ((conv => whnf); refine ⟨rfl, rfl, ?_⟩)); trivial)
  intro k hk
  generalize hK : kk _ = KK
  have hbl := bySt_len ps (fullQ ps n) k
  ((repeat ((conv => whnf); first | refine brT ?_ | refine brF ?_)); conv => whnf)
  (refine ⟨fun g1 => ?_, fun g1 => ?_⟩ <;> rw [g1])
  · have hlt : k < ps.length := by rw [ltI_t] at g1; omega
    have e := step_i hlt hp'
    have hg : (ps.map Per.lv)[k]? = some ps[k].lv := by simp [hlt]
    have hQ : fullQ ps n k = fullB ps[n] ps[k] n k := by simp [fullQ, pl, hlt]
    ((repeat ((conv => whnf); first | refine brT ?_ | refine brF ?_)); conv => whnf)
    refine ⟨_, l1Full_spec ps us n k pl hlt, ?_⟩
    ((repeat ((conv => whnf); first | refine brT ?_ | refine brF ?_)); conv => whnf)
    (refine ⟨fun g2 => ?_, fun g2 => ?_⟩ <;> rw [g2])
    · have hq : fullQ ps n k = true := by rw [hQ, g2]
      ((repeat ((conv => whnf); first | refine brT ?_ | refine brF ?_)); conv => whnf)
      refine ⟨[], _, _, _, _, l1ByAge_h ps us (bySt ps (fullQ ps n) k) k hlt (fun x hx => Nat.lt_trans (bySt_lt hx) hlt) (by omega), rfl, ?_⟩
      ((repeat ((conv => whnf); first | refine brT ?_ | refine brF ?_)); conv => whnf)
      refine ⟨rfl, ?_⟩
      ((repeat ((conv => whnf); first | refine brT ?_ | refine brF ?_)); conv => whnf)
      refine ⟨rfl, rfl, ⟨rfl, flats_nats _, trivial⟩, ?_⟩
      ((repeat ((conv => whnf); first | refine brT ?_ | refine brF ?_)); conv => whnf)
      subst hK
      have e2 : insA ps k (bySt ps (fullQ ps n) k) = bySt ps (fullQ ps n) (k + 1) := by simp [bySt, hq]
      have e3 : LV.hs 1 ((insA ps k (bySt ps (fullQ ps n) k)).map natLV).length = LV.hs 1 ((bySt ps (fullQ ps n) (k + 1)).map natLV).length := by rw [e2]
      refine round_endR [.old 0, .old 2] (k + 1) hlt (by omega) ⟨?_, ⟨rfl, rfl, rfl, congrArg (fun l : List Nat => Blk.arr 3 1 (l.map natLV)) e2, trivial⟩, rfl⟩
      repeat ((conv => whnf); first | refine ⟨rfl, e, ?_⟩ | refine ⟨rfl, e3, ?_⟩ | refine ⟨rfl, rfl, ?_⟩)
      trivial
    · have hq : fullQ ps n k = false := by rw [hQ, g2]
      have e2 : bySt ps (fullQ ps n) k = bySt ps (fullQ ps n) (k + 1) := by simp [bySt, hq]
      have e3 : LV.hs 1 ((bySt ps (fullQ ps n) k).map natLV).length = LV.hs 1 ((bySt ps (fullQ ps n) (k + 1)).map natLV).length := by rw [← e2]
      ((repeat ((conv => whnf); first | refine brT ?_ | refine brF ?_)); conv => whnf)
      subst hK
      refine round_endR [.old 0, .old 1] (k + 1) hlt (by omega) ⟨?_, ⟨rfl, rfl, rfl, congrArg (fun l : List Nat => Blk.arr 3 1 (l.map natLV)) e2, trivial⟩, rfl⟩
      repeat ((conv => whnf); first | refine ⟨rfl, e, ?_⟩ | refine ⟨rfl, e3, ?_⟩ | refine ⟨rfl, rfl, ?_⟩)
      trivial
  have h4 : k = ps.length := by rw [ltI_f] at g1; omega
  subst h4
  subst hK
  ((repeat ((conv => whnf); first | refine brT ?_ | refine brF ?_)); conv => whnf)
  exact ⟨[.hs 0 ((bySt ps (fullQ ps n) ps.length).map natLV).length], rfl, rfl, .inr ⟨[.old 1], ⟨rfl, rfl, trivial⟩, ⟨rfl, rfl, trivial⟩, rfl⟩⟩
theorem half_spec (ps : List Per) (us : List Uni) (p : Int) : HSpec env.P 32 [famLV ps us, .int .i64 p] [] (.hs 0 ((halfL ps us p).map natLV).length) [.arr 3 1 ((halfL ps us p).map natLV)] := by
  refine HSpec_of_code (E := env.x [90] 0) env_ok.x (fn := Try.f32) Try.func32 rfl Try.call32 _ _ _ _ ?_
  unfold halfL
  ((repeat ((conv => whnf); first | refine brT ?_ | refine brF ?_)); conv => whnf)
  refine ⟨_, l1Has_spec ps us p, ?_⟩
  ((repeat ((conv => whnf); first | refine brT ?_ | refine brF ?_)); conv => whnf)
  cases h : hasP ps us p
  · rw [show notB false = true by simp [notB]]
    ((repeat ((conv => whnf); first | refine brT ?_ | refine brF ?_)); conv => whnf)
    exact ⟨[.hs 0 0], rfl, rfl, .nl [.tmp 0 [] false 3 1] [.old 1] ⟨⟨rfl, rfl, trivial⟩, ⟨rfl, rfl, trivial⟩, rfl⟩⟩
  rw [show notB true = false by simp [notB]]
  obtain ⟨p0, pl, hl, _⟩ := hasP_in h
  obtain ⟨n, rfl⟩ : ∃ n : Nat, p = (n : Int) := ⟨p.toNat, by omega⟩
  simp only [Int.toNat_natCast] at pl
  rw [Int.toNat_natCast]
  have hP : (ps.map Per.lv).length = ps.length := List.length_map ..
  have hp' : ps.length ≤ Go.maxLen := by unfold Go.maxLen; omega
  rw [← bySt_eld]
  ((repeat ((conv => whnf); first | refine brT ?_ | refine brF ?_)); conv => whnf)
  refine ⟨n, ps[n].lv, rfl, by simp [pl], rfl, ?_⟩
  ((repeat ((conv => whnf); first | refine brT ?_ | refine brF ?_)); conv => whnf)
  intro _
  rw [hP]
  ((repeat ((conv => whnf); first | refine brT ?_ | refine brF ?_)); conv => whnf)
  refine loop_ruleR (α := Nat) [.old 0, .old 1, .old 2] (fun k => [(22, .int .i64 (k : Int)), (13, .undef), (5, .hs 1 ((bySt ps (halfQ ps n) k).map natLV).length)]) (fun k => [.box (famLV ps us), .arr 3 1 ((bySt ps (halfQ ps n) k).map natLV), .box ps[n].lv]) (fun k => ps.length - k) (fun k => k ≤ ps.length) 0 (Nat.zero_le _) ?_ ?_
  · refine ⟨?_, ⟨rfl, rfl, rfl, rfl, rfl, rfl, trivial⟩, rfl⟩
    ((repeat ((conv => whnf); refine ⟨rfl, rfl, ?_⟩)); trivial)
  intro k hk
  generalize hK : kk _ = KK
  have hbl := bySt_len ps (halfQ ps n) k
  ((repeat ((conv => whnf); first | refine brT ?_ | refine brF ?_)); conv => whnf)
  (refine ⟨fun g1 => ?_, fun g1 => ?_⟩ <;> rw [g1])
  · have hlt : k < ps.length := by rw [ltI_t] at g1; omega
    have e := step_i hlt hp'
    have hg : (ps.map Per.lv)[k]? = some ps[k].lv := by simp [hlt]
    have hQ : halfQ ps n k = (notB (eqI (k : Int) (n : Int)) && (notB (fullB ps[n] ps[k] n k) && ((leI 0 ps[n].father && eqI ps[n].father ps[k].father) || (leI 0 ps[n].mother && eqI ps[n].mother ps[k].mother)))) := by simp [halfQ, pl, hlt, halfB]
    ((repeat ((conv => whnf); first | refine brT ?_ | refine brF ?_)); conv => whnf)
    refine ⟨k, _, rfl, hg, rfl, ?_⟩
    ((repeat ((conv => whnf); first | refine brT ?_ | refine brF ?_)); conv => whnf)
    (refine ⟨fun g2 => ?_, fun g2 => ?_⟩ <;> rw [g2])
    · ((repeat ((conv => whnf); first | refine brT ?_ | refine brF ?_)); conv => whnf)
      refine ⟨_, l1Full_spec ps us n k pl hlt, ?_⟩
      ((repeat ((conv => whnf); first | refine brT ?_ | refine brF ?_)); conv => whnf)
      (refine ⟨fun g3 => ?_, fun g3 => ?_⟩ <;> rw [g3])
      · ((repeat ((conv => whnf); first | refine brT ?_ | refine brF ?_)); conv => whnf)
        (refine ⟨fun f1 => ?_, fun f1 => ?_⟩ <;> rw [f1])
        · ((repeat ((conv => whnf); first | refine brT ?_ | refine brF ?_)); conv => whnf)
          (refine ⟨fun f2 => ?_, fun f2 => ?_⟩ <;> rw [f2])
          · have hq : halfQ ps n k = true := by rw [hQ]; simp [g2, g3, f1, f2]
            ((repeat ((conv => whnf); first | refine brT ?_ | refine brF ?_)); conv => whnf)
            refine ⟨[], _, _, _, _, l1ByAge_h ps us (bySt ps (halfQ ps n) k) k hlt (fun x hx => Nat.lt_trans (bySt_lt hx) hlt) (by omega), rfl, ?_⟩
            ((repeat ((conv => whnf); first | refine brT ?_ | refine brF ?_)); conv => whnf)
            refine ⟨rfl, ?_⟩
            ((repeat ((conv => whnf); first | refine brT ?_ | refine brF ?_)); conv => whnf)
            refine ⟨rfl, rfl, ⟨rfl, flats_nats _, trivial⟩, ?_⟩
            ((repeat ((conv => whnf); first | refine brT ?_ | refine brF ?_)); conv => whnf)
            subst hK
            have e2 : insA ps k (bySt ps (halfQ ps n) k) = bySt ps (halfQ ps n) (k + 1) := by simp [bySt, hq]
            have e3 : LV.hs 1 ((insA ps k (bySt ps (halfQ ps n) k)).map natLV).length = LV.hs 1 ((bySt ps (halfQ ps n) (k + 1)).map natLV).length := by rw [e2]
            refine round_endR [.old 0, .old 4, .old 2] (k + 1) hlt (by omega) ⟨?_, ⟨rfl, rfl, rfl, congrArg (fun l : List Nat => Blk.arr 3 1 (l.map natLV)) e2, rfl, rfl, trivial⟩, rfl⟩
            repeat ((conv => whnf); first | refine ⟨rfl, e, ?_⟩ | refine ⟨rfl, e3, ?_⟩ | refine ⟨rfl, rfl, ?_⟩)
            trivial
          · ((repeat ((conv => whnf); first | refine brT ?_ | refine brF ?_)); conv => whnf)
            (refine ⟨fun m1 => ?_, fun m1 => ?_⟩ <;> rw [m1])
            · ((repeat ((conv => whnf); first | refine brT ?_ | refine brF ?_)); conv => whnf)
              (refine ⟨fun m2 => ?_, fun m2 => ?_⟩ <;> rw [m2])
              · have hq : halfQ ps n k = true := by rw [hQ]; simp [g2, g3, f1, f2, m1, m2]
                ((repeat ((conv => whnf); first | refine brT ?_ | refine brF ?_)); conv => whnf)
                refine ⟨[], _, _, _, _, l1ByAge_h ps us (bySt ps (halfQ ps n) k) k hlt (fun x hx => Nat.lt_trans (bySt_lt hx) hlt) (by omega), rfl, ?_⟩
                ((repeat ((conv => whnf); first | refine brT ?_ | refine brF ?_)); conv => whnf)
                refine ⟨rfl, ?_⟩
                ((repeat ((conv => whnf); first | refine brT ?_ | refine brF ?_)); conv => whnf)
                refine ⟨rfl, rfl, ⟨rfl, flats_nats _, trivial⟩, ?_⟩
                ((repeat ((conv => whnf); first | refine brT ?_ | refine brF ?_)); conv => whnf)
                subst hK
                have e2 : insA ps k (bySt ps (halfQ ps n) k) = bySt ps (halfQ ps n) (k + 1) := by simp [bySt, hq]
                have e3 : LV.hs 1 ((insA ps k (bySt ps (halfQ ps n) k)).map natLV).length = LV.hs 1 ((bySt ps (halfQ ps n) (k + 1)).map natLV).length := by rw [e2]
                refine round_endR [.old 0, .old 4, .old 2] (k + 1) hlt (by omega) ⟨?_, ⟨rfl, rfl, rfl, congrArg (fun l : List Nat => Blk.arr 3 1 (l.map natLV)) e2, rfl, rfl, trivial⟩, rfl⟩
                repeat ((conv => whnf); first | refine ⟨rfl, e, ?_⟩ | refine ⟨rfl, e3, ?_⟩ | refine ⟨rfl, rfl, ?_⟩)
                trivial
              · have hq : halfQ ps n k = false := by rw [hQ]; simp [g2, g3, f1, f2, m1, m2]
                have e2 : bySt ps (halfQ ps n) k = bySt ps (halfQ ps n) (k + 1) := by simp [bySt, hq]
                have e3 : LV.hs 1 ((bySt ps (halfQ ps n) k).map natLV).length = LV.hs 1 ((bySt ps (halfQ ps n) (k + 1)).map natLV).length := by rw [← e2]
                ((repeat ((conv => whnf); first | refine brT ?_ | refine brF ?_)); conv => whnf)
                subst hK
                refine round_endR [.old 0, .old 1, .old 2] (k + 1) hlt (by omega) ⟨?_, ⟨rfl, rfl, rfl, congrArg (fun l : List Nat => Blk.arr 3 1 (l.map natLV)) e2, rfl, rfl, trivial⟩, rfl⟩
                repeat ((conv => whnf); first | refine ⟨rfl, e, ?_⟩ | refine ⟨rfl, e3, ?_⟩ | refine ⟨rfl, rfl, ?_⟩)
                trivial
            · have hq : halfQ ps n k = false := by rw [hQ]; simp [g2, g3, f1, f2, m1]
              have e2 : bySt ps (halfQ ps n) k = bySt ps (halfQ ps n) (k + 1) := by simp [bySt, hq]
              have e3 : LV.hs 1 ((bySt ps (halfQ ps n) k).map natLV).length = LV.hs 1 ((bySt ps (halfQ ps n) (k + 1)).map natLV).length := by rw [← e2]
              ((repeat ((conv => whnf); first | refine brT ?_ | refine brF ?_)); conv => whnf)
              subst hK
              refine round_endR [.old 0, .old 1, .old 2] (k + 1) hlt (by omega) ⟨?_, ⟨rfl, rfl, rfl, congrArg (fun l : List Nat => Blk.arr 3 1 (l.map natLV)) e2, rfl, rfl, trivial⟩, rfl⟩
              repeat ((conv => whnf); first | refine ⟨rfl, e, ?_⟩ | refine ⟨rfl, e3, ?_⟩ | refine ⟨rfl, rfl, ?_⟩)
              trivial
        · ((repeat ((conv => whnf); first | refine brT ?_ | refine brF ?_)); conv => whnf)
          (refine ⟨fun m1 => ?_, fun m1 => ?_⟩ <;> rw [m1])
          · ((repeat ((conv => whnf); first | refine brT ?_ | refine brF ?_)); conv => whnf)
            (refine ⟨fun m2 => ?_, fun m2 => ?_⟩ <;> rw [m2])
            · have hq : halfQ ps n k = true := by rw [hQ]; simp [g2, g3, f1, m1, m2]
              ((repeat ((conv => whnf); first | refine brT ?_ | refine brF ?_)); conv => whnf)
              refine ⟨[], _, _, _, _, l1ByAge_h ps us (bySt ps (halfQ ps n) k) k hlt (fun x hx => Nat.lt_trans (bySt_lt hx) hlt) (by omega), rfl, ?_⟩
              ((repeat ((conv => whnf); first | refine brT ?_ | refine brF ?_)); conv => whnf)
              refine ⟨rfl, ?_⟩
              ((repeat ((conv => whnf); first | refine brT ?_ | refine brF ?_)); conv => whnf)
              refine ⟨rfl, rfl, ⟨rfl, flats_nats _, trivial⟩, ?_⟩
              ((repeat ((conv => whnf); first | refine brT ?_ | refine brF ?_)); conv => whnf)
              subst hK
              have e2 : insA ps k (bySt ps (halfQ ps n) k) = bySt ps (halfQ ps n) (k + 1) := by simp [bySt, hq]
              have e3 : LV.hs 1 ((insA ps k (bySt ps (halfQ ps n) k)).map natLV).length = LV.hs 1 ((bySt ps (halfQ ps n) (k + 1)).map natLV).length := by rw [e2]
              refine round_endR [.old 0, .old 4, .old 2] (k + 1) hlt (by omega) ⟨?_, ⟨rfl, rfl, rfl, congrArg (fun l : List Nat => Blk.arr 3 1 (l.map natLV)) e2, rfl, rfl, trivial⟩, rfl⟩
              repeat ((conv => whnf); first | refine ⟨rfl, e, ?_⟩ | refine ⟨rfl, e3, ?_⟩ | refine ⟨rfl, rfl, ?_⟩)
              trivial
            · have hq : halfQ ps n k = false := by rw [hQ]; simp [g2, g3, f1, m1, m2]
              have e2 : bySt ps (halfQ ps n) k = bySt ps (halfQ ps n) (k + 1) := by simp [bySt, hq]
              have e3 : LV.hs 1 ((bySt ps (halfQ ps n) k).map natLV).length = LV.hs 1 ((bySt ps (halfQ ps n) (k + 1)).map natLV).length := by rw [← e2]
              ((repeat ((conv => whnf); first | refine brT ?_ | refine brF ?_)); conv => whnf)
              subst hK
              refine round_endR [.old 0, .old 1, .old 2] (k + 1) hlt (by omega) ⟨?_, ⟨rfl, rfl, rfl, congrArg (fun l : List Nat => Blk.arr 3 1 (l.map natLV)) e2, rfl, rfl, trivial⟩, rfl⟩
              repeat ((conv => whnf); first | refine ⟨rfl, e, ?_⟩ | refine ⟨rfl, e3, ?_⟩ | refine ⟨rfl, rfl, ?_⟩)
              trivial
          · have hq : halfQ ps n k = false := by rw [hQ]; simp [g2, g3, f1, m1]
            have e2 : bySt ps (halfQ ps n) k = bySt ps (halfQ ps n) (k + 1) := by simp [bySt, hq]
            have e3 : LV.hs 1 ((bySt ps (halfQ ps n) k).map natLV).length = LV.hs 1 ((bySt ps (halfQ ps n) (k + 1)).map natLV).length := by rw [← e2]
            ((repeat ((conv => whnf); first | refine brT ?_ | refine brF ?_)); conv => whnf)
            subst hK
            refine round_endR [.old 0, .old 1, .old 2] (k + 1) hlt (by omega) ⟨?_, ⟨rfl, rfl, rfl, congrArg (fun l : List Nat => Blk.arr 3 1 (l.map natLV)) e2, rfl, rfl, trivial⟩, rfl⟩
            repeat ((conv => whnf); first | refine ⟨rfl, e, ?_⟩ | refine ⟨rfl, e3, ?_⟩ | refine ⟨rfl, rfl, ?_⟩)
            trivial
      · have hq : halfQ ps n k = false := by rw [hQ]; simp [g2, g3]
        have e2 : bySt ps (halfQ ps n) k = bySt ps (halfQ ps n) (k + 1) := by simp [bySt, hq]
        have e3 : LV.hs 1 ((bySt ps (halfQ ps n) k).map natLV).length = LV.hs 1 ((bySt ps (halfQ ps n) (k + 1)).map natLV).length := by rw [← e2]
        ((repeat ((conv => whnf); first | refine brT ?_ | refine brF ?_)); conv => whnf)
        subst hK
        refine round_endR [.old 0, .old 1, .old 2] (k + 1) hlt (by omega) ⟨?_, ⟨rfl, rfl, rfl, congrArg (fun l : List Nat => Blk.arr 3 1 (l.map natLV)) e2, rfl, rfl, trivial⟩, rfl⟩
        repeat ((conv => whnf); first | refine ⟨rfl, e, ?_⟩ | refine ⟨rfl, e3, ?_⟩ | refine ⟨rfl, rfl, ?_⟩)
        trivial
    · have hq : halfQ ps n k = false := by rw [hQ]; simp [g2]
      have e2 : bySt ps (halfQ ps n) k = bySt ps (halfQ ps n) (k + 1) := by simp [bySt, hq]
      have e3 : LV.hs 1 ((bySt ps (halfQ ps n) k).map natLV).length = LV.hs 1 ((bySt ps (halfQ ps n) (k + 1)).map natLV).length := by rw [← e2]
      ((repeat ((conv => whnf); first | refine brT ?_ | refine brF ?_)); conv => whnf)
      subst hK
      refine round_endR [.old 0, .old 1, .old 2] (k + 1) hlt (by omega) ⟨?_, ⟨rfl, rfl, rfl, congrArg (fun l : List Nat => Blk.arr 3 1 (l.map natLV)) e2, rfl, rfl, trivial⟩, rfl⟩
      repeat ((conv => whnf); first | refine ⟨rfl, e, ?_⟩ | refine ⟨rfl, e3, ?_⟩ | refine ⟨rfl, rfl, ?_⟩)
      trivial
  have h4 : k = ps.length := by rw [ltI_f] at g1; omega
  subst h4
  subst hK
  ((repeat ((conv => whnf); first | refine brT ?_ | refine brF ?_)); conv => whnf)
  exact ⟨[.hs 0 ((bySt ps (halfQ ps n) ps.length).map natLV).length], rfl, rfl, .inr ⟨[.old 1], ⟨rfl, rfl, trivial⟩, ⟨rfl, rfl, trivial⟩, rfl⟩⟩
end Go.Proofs.Ytplkockghigpdaa


namespace Go.Proofs.Ytplkockghigpdaa
open Go.Lg Go.Pm
set_option maxHeartbeats 3200000
set_option maxRecDepth 10000
set_option linter.unusedVariables false
set_option linter.unusedSimpArgs false

def castL (xs : List Nat) : List Int := xs.map fun n : Nat => (n : Int)
theorem castL_map (xs : List Nat) : xs.map natLV = (castL xs).map intLV := by unfold castL; rw [List.map_map]; rfl
theorem castL_len (xs : List Nat) : (castL xs).length = xs.length := List.length_map ..
theorem ints_h {f : FuncId} {args : List LV} {xs : List Nat} (h : HSpec env.P f args [] (.hs 0 (xs.map natLV).length) [.arr 3 1 (xs.map natLV)]) : HSpec env.P f args [] (.hs 0 ((castL xs).map intLV).length) [.arr 3 1 ((castL xs).map intLV)] := by
  rw [castL_map] at h; exact h
theorem law_childrenOf (ps : List Per) (us : List Uni) (p : Int) (hf : FamOK ps us) : FSpec env.P 3 [famLV ps us, .int .i64 p] (.bool true) := by
  refine FSpec_of_code (E := env.x [23, 24, 27, 28] 0) env_ok.x (fn := Try.f3) Try.func3 rfl Try.call3 _ _ ?_
  ((repeat ((conv => whnf); first | refine brT ?_ | refine brF ?_)); conv => whnf)
  refine ⟨_, szFamily_spec ps us _, ?_⟩
  ((repeat ((conv => whnf); first | refine brT ?_ | refine brF ?_)); conv => whnf)
  (refine ⟨fun h => ?_, fun h => ?_⟩ <;> rw [h])
  · ((repeat ((conv => whnf); first | refine brT ?_ | refine brF ?_)); conv => whnf); exact fin rfl
  rw [ltI_f] at h
  obtain ⟨p1, u1, s1⟩ := szFam_ok (by omega) (by omega) hf h
  have hI := ints_h (kids_impl ps us p)
  have hS := ints_f (ints_h (kids_spec ps us p))
  have hl : (castL (kidsL ps us p)).length ≤ 1048576 := by
    rw [castL_len]
    unfold kidsL
    split
    · rename_i h
      obtain ⟨_, _, hl, _⟩ := hasP_in h
      exact Nat.le_trans (eldL_len _ _ _) (by omega)
    · simp
  generalize castL (kidsL ps us p) = R at hI hS hl
  ((repeat ((conv => whnf); first | refine brT ?_ | refine brF ?_)); conv => whnf)
  refine ⟨[], _, _, _, _, toFamily_hm ps us p1 u1, rfl, rfl, rfl, trivial, ?_⟩
  ((repeat ((conv => whnf); first | refine brT ?_ | refine brF ?_)); conv => whnf)
  refine ⟨rfl, ?_⟩
  ((repeat ((conv => whnf); first | refine brT ?_ | refine brF ?_)); conv => whnf)
  refine ⟨rfl, ?_⟩
  ((repeat ((conv => whnf); first | refine brT ?_ | refine brF ?_)); conv => whnf)
  refine ⟨_, hS, ?_⟩
  rw [show flatT (rowOw R) = true from flat_ints R]
  ((repeat ((conv => whnf); first | refine brT ?_ | refine brF ?_)); conv => whnf)
  refine ⟨[], _, _, _, _, toFamily_hm ps us p1 u1, rfl, rfl, rfl, trivial, ?_⟩
  ((repeat ((conv => whnf); first | refine brT ?_ | refine brF ?_)); conv => whnf)
  refine ⟨[], _, _, _, _, hI, rfl, ?_⟩
  ((repeat ((conv => whnf); first | refine brT ?_ | refine brF ?_)); conv => whnf)
  refine ⟨rfl, ?_⟩
  ((repeat ((conv => whnf); first | refine brT ?_ | refine brF ?_)); conv => whnf)
  refine ⟨rfl, ?_⟩
  ((repeat ((conv => whnf); first | refine brT ?_ | refine brF ?_)); conv => whnf)
  refine ⟨rfl, rfl, ⟨rfl, flats_ints _, trivial⟩, ?_⟩
  ((repeat ((conv => whnf); first | refine brT ?_ | refine brF ?_)); conv => whnf)
  refine ⟨rfl, ?_⟩
  ((repeat ((conv => whnf); first | refine brT ?_ | refine brF ?_)); conv => whnf)
  refine ⟨_, eqIntS_spec R R, ?_⟩
  rw [eqIntS_refl]
  ((repeat ((conv => whnf); first | refine brT ?_ | refine brF ?_)); conv => whnf)
  rw [show notB true = false by simp [notB]]
  ((repeat ((conv => whnf); first | refine brT ?_ | refine brF ?_)); conv => whnf)
  refine ⟨true, by kernel_rfl, ?_⟩
  ((repeat ((conv => whnf); first | refine brT ?_ | refine brF ?_)); conv => whnf)
  refine ⟨_, toFamily_spec ps us p1 u1, ?_⟩
  ((repeat ((conv => whnf); first | refine brT ?_ | refine brF ?_)); conv => whnf)
  refine ⟨rfl, ?_⟩
  ((repeat ((conv => whnf); first | refine brT ?_ | refine brF ?_)); conv => whnf)
  refine ⟨rfl, ?_⟩
  ((repeat ((conv => whnf); first | refine brT ?_ | refine brF ?_)); conv => whnf)
  refine ⟨_, eqFamily_spec ps ps us us, ?_⟩
  rw [eqFam_refl]
  ((repeat ((conv => whnf); first | refine brT ?_ | refine brF ?_)); conv => whnf)
  rw [show notB true = false by simp [notB]]
  ((repeat ((conv => whnf); first | refine brT ?_ | refine brF ?_)); conv => whnf)
  refine ⟨[3, 4], _, _, _, _, markFamily_hm ps us 1 (by omega), rfl, rfl, rfl, trivial, ?_⟩
  ((repeat ((conv => whnf); first | refine brT ?_ | refine brF ?_)); conv => whnf)
  rw [show ltI ((1 + 6 * ps.length + 4 * us.length : Nat) : Int) 0 = false by rw [ltI_f]; omega]
  ((repeat ((conv => whnf); first | refine brT ?_ | refine brF ?_)); conv => whnf)
  refine ⟨rfl, ?_⟩
  ((repeat ((conv => whnf); first | refine brT ?_ | refine brF ?_)); conv => whnf)
  refine ⟨_, eqIntS_spec R R, ?_⟩
  rw [eqIntS_refl]
  ((repeat ((conv => whnf); first | refine brT ?_ | refine brF ?_)); conv => whnf)
  rw [show notB true = false by simp [notB]]
  ((repeat ((conv => whnf); first | refine brT ?_ | refine brF ?_)); conv => whnf)
  refine ⟨[6], _, _, _, _, markIntS_spec R _ rfl 1 (by omega) (by omega), rfl, rfl, rfl, trivial, ?_⟩
  ((repeat ((conv => whnf); first | refine brT ?_ | refine brF ?_)); conv => whnf)
  refine ⟨by simp [marks_len], ?_⟩
  ((repeat ((conv => whnf); first | refine brT ?_ | refine brF ?_)); conv => whnf)
  refine ⟨_, heldIntS_spec 1 R.length (by omega) (by omega), ?_⟩
  ((repeat ((conv => whnf); first | refine brT ?_ | refine brF ?_)); conv => whnf)
  rw [show ltI (1 + (R.length : Int)) 0 = false by rw [ltI_f]; omega]
  ((repeat ((conv => whnf); first | refine brT ?_ | refine brF ?_)); conv => whnf)
  rw [show notB (eqI (1 + (R.length : Int)) (1 + (R.length : Int))) = false by simp [notB, eqI_refl]]
  ((repeat ((conv => whnf); first | refine brT ?_ | refine brF ?_)); conv => whnf)
  refine ⟨[], _, _, _, _, toFamily_hm ps us p1 u1, rfl, rfl, rfl, trivial, ?_⟩
  ((repeat ((conv => whnf); first | refine brT ?_ | refine brF ?_)); conv => whnf)
  refine ⟨[], _, _, _, _, hI, rfl, ?_⟩
  ((repeat ((conv => whnf); first | refine brT ?_ | refine brF ?_)); conv => whnf)
  refine ⟨rfl, ?_⟩
  ((repeat ((conv => whnf); first | refine brT ?_ | refine brF ?_)); conv => whnf)
  refine ⟨rfl, ?_⟩
  ((repeat ((conv => whnf); first | refine brT ?_ | refine brF ?_)); conv => whnf)
  refine ⟨rfl, rfl, ⟨rfl, flats_ints _, trivial⟩, ?_⟩
  ((repeat ((conv => whnf); first | refine brT ?_ | refine brF ?_)); conv => whnf)
  refine ⟨rfl, ?_⟩
  ((repeat ((conv => whnf); first | refine brT ?_ | refine brF ?_)); conv => whnf)
  refine ⟨_, eqIntS_spec R R, ?_⟩
  rw [eqIntS_refl]
  ((repeat ((conv => whnf); first | refine brT ?_ | refine brF ?_)); conv => whnf)
  rw [show notB true = false by simp [notB]]
  ((repeat ((conv => whnf); first | refine brT ?_ | refine brF ?_)); conv => whnf)
  refine ⟨by simp [marks_len], ?_⟩
  ((repeat ((conv => whnf); first | refine brT ?_ | refine brF ?_)); conv => whnf)
  refine ⟨_, heldIntS_spec 1 R.length (by omega) (by omega), ?_⟩
  ((repeat ((conv => whnf); first | refine brT ?_ | refine brF ?_)); conv => whnf)
  rw [show ltI (1 + (R.length : Int)) 0 = false by rw [ltI_f]; omega]
  ((repeat ((conv => whnf); first | refine brT ?_ | refine brF ?_)); conv => whnf)
  rw [show notB (eqI (1 + (R.length : Int)) (1 + (R.length : Int))) = false by simp [notB, eqI_refl]]
  ((repeat ((conv => whnf); first | refine brT ?_ | refine brF ?_)); conv => whnf)
  exact fin rfl
theorem law_fullSiblings (ps : List Per) (us : List Uni) (p : Int) (hf : FamOK ps us) : FSpec env.P 4 [famLV ps us, .int .i64 p] (.bool true) := by
  refine FSpec_of_code (E := env.x [23, 31, 27, 28] 0) env_ok.x (fn := Try.f4) Try.func4 rfl Try.call4 _ _ ?_
  ((repeat ((conv => whnf); first | refine brT ?_ | refine brF ?_)); conv => whnf)
  refine ⟨_, szFamily_spec ps us _, ?_⟩
  ((repeat ((conv => whnf); first | refine brT ?_ | refine brF ?_)); conv => whnf)
  (refine ⟨fun h => ?_, fun h => ?_⟩ <;> rw [h])
  · ((repeat ((conv => whnf); first | refine brT ?_ | refine brF ?_)); conv => whnf); exact fin rfl
  rw [ltI_f] at h
  obtain ⟨p1, u1, s1⟩ := szFam_ok (by omega) (by omega) hf h
  have hI := ints_h (full_impl ps us p)
  have hS := ints_f (ints_h (full_spec ps us p))
  have hl : (castL (fullL ps us p)).length ≤ 1048576 := by
    rw [castL_len]
    unfold fullL
    split
    · rename_i h
      obtain ⟨_, _, hl, _⟩ := hasP_in h
      exact Nat.le_trans (eldL_len _ _ _) (by omega)
    · simp
  generalize castL (fullL ps us p) = R at hI hS hl
  ((repeat ((conv => whnf); first | refine brT ?_ | refine brF ?_)); conv => whnf)
  refine ⟨[], _, _, _, _, toFamily_hm ps us p1 u1, rfl, rfl, rfl, trivial, ?_⟩
  ((repeat ((conv => whnf); first | refine brT ?_ | refine brF ?_)); conv => whnf)
  refine ⟨rfl, ?_⟩
  ((repeat ((conv => whnf); first | refine brT ?_ | refine brF ?_)); conv => whnf)
  refine ⟨rfl, ?_⟩
  ((repeat ((conv => whnf); first | refine brT ?_ | refine brF ?_)); conv => whnf)
  refine ⟨_, hS, ?_⟩
  rw [show flatT (rowOw R) = true from flat_ints R]
  ((repeat ((conv => whnf); first | refine brT ?_ | refine brF ?_)); conv => whnf)
  refine ⟨[], _, _, _, _, toFamily_hm ps us p1 u1, rfl, rfl, rfl, trivial, ?_⟩
  ((repeat ((conv => whnf); first | refine brT ?_ | refine brF ?_)); conv => whnf)
  refine ⟨[], _, _, _, _, hI, rfl, ?_⟩
  ((repeat ((conv => whnf); first | refine brT ?_ | refine brF ?_)); conv => whnf)
  refine ⟨rfl, ?_⟩
  ((repeat ((conv => whnf); first | refine brT ?_ | refine brF ?_)); conv => whnf)
  refine ⟨rfl, ?_⟩
  ((repeat ((conv => whnf); first | refine brT ?_ | refine brF ?_)); conv => whnf)
  refine ⟨rfl, rfl, ⟨rfl, flats_ints _, trivial⟩, ?_⟩
  ((repeat ((conv => whnf); first | refine brT ?_ | refine brF ?_)); conv => whnf)
  refine ⟨rfl, ?_⟩
  ((repeat ((conv => whnf); first | refine brT ?_ | refine brF ?_)); conv => whnf)
  refine ⟨_, eqIntS_spec R R, ?_⟩
  rw [eqIntS_refl]
  ((repeat ((conv => whnf); first | refine brT ?_ | refine brF ?_)); conv => whnf)
  rw [show notB true = false by simp [notB]]
  ((repeat ((conv => whnf); first | refine brT ?_ | refine brF ?_)); conv => whnf)
  refine ⟨true, by kernel_rfl, ?_⟩
  ((repeat ((conv => whnf); first | refine brT ?_ | refine brF ?_)); conv => whnf)
  refine ⟨_, toFamily_spec ps us p1 u1, ?_⟩
  ((repeat ((conv => whnf); first | refine brT ?_ | refine brF ?_)); conv => whnf)
  refine ⟨rfl, ?_⟩
  ((repeat ((conv => whnf); first | refine brT ?_ | refine brF ?_)); conv => whnf)
  refine ⟨rfl, ?_⟩
  ((repeat ((conv => whnf); first | refine brT ?_ | refine brF ?_)); conv => whnf)
  refine ⟨_, eqFamily_spec ps ps us us, ?_⟩
  rw [eqFam_refl]
  ((repeat ((conv => whnf); first | refine brT ?_ | refine brF ?_)); conv => whnf)
  rw [show notB true = false by simp [notB]]
  ((repeat ((conv => whnf); first | refine brT ?_ | refine brF ?_)); conv => whnf)
  refine ⟨[3, 4], _, _, _, _, markFamily_hm ps us 1 (by omega), rfl, rfl, rfl, trivial, ?_⟩
  ((repeat ((conv => whnf); first | refine brT ?_ | refine brF ?_)); conv => whnf)
  rw [show ltI ((1 + 6 * ps.length + 4 * us.length : Nat) : Int) 0 = false by rw [ltI_f]; omega]
  ((repeat ((conv => whnf); first | refine brT ?_ | refine brF ?_)); conv => whnf)
  refine ⟨rfl, ?_⟩
  ((repeat ((conv => whnf); first | refine brT ?_ | refine brF ?_)); conv => whnf)
  refine ⟨_, eqIntS_spec R R, ?_⟩
  rw [eqIntS_refl]
  ((repeat ((conv => whnf); first | refine brT ?_ | refine brF ?_)); conv => whnf)
  rw [show notB true = false by simp [notB]]
  ((repeat ((conv => whnf); first | refine brT ?_ | refine brF ?_)); conv => whnf)
  refine ⟨[6], _, _, _, _, markIntS_spec R _ rfl 1 (by omega) (by omega), rfl, rfl, rfl, trivial, ?_⟩
  ((repeat ((conv => whnf); first | refine brT ?_ | refine brF ?_)); conv => whnf)
  refine ⟨by simp [marks_len], ?_⟩
  ((repeat ((conv => whnf); first | refine brT ?_ | refine brF ?_)); conv => whnf)
  refine ⟨_, heldIntS_spec 1 R.length (by omega) (by omega), ?_⟩
  ((repeat ((conv => whnf); first | refine brT ?_ | refine brF ?_)); conv => whnf)
  rw [show ltI (1 + (R.length : Int)) 0 = false by rw [ltI_f]; omega]
  ((repeat ((conv => whnf); first | refine brT ?_ | refine brF ?_)); conv => whnf)
  rw [show notB (eqI (1 + (R.length : Int)) (1 + (R.length : Int))) = false by simp [notB, eqI_refl]]
  ((repeat ((conv => whnf); first | refine brT ?_ | refine brF ?_)); conv => whnf)
  refine ⟨[], _, _, _, _, toFamily_hm ps us p1 u1, rfl, rfl, rfl, trivial, ?_⟩
  ((repeat ((conv => whnf); first | refine brT ?_ | refine brF ?_)); conv => whnf)
  refine ⟨[], _, _, _, _, hI, rfl, ?_⟩
  ((repeat ((conv => whnf); first | refine brT ?_ | refine brF ?_)); conv => whnf)
  refine ⟨rfl, ?_⟩
  ((repeat ((conv => whnf); first | refine brT ?_ | refine brF ?_)); conv => whnf)
  refine ⟨rfl, ?_⟩
  ((repeat ((conv => whnf); first | refine brT ?_ | refine brF ?_)); conv => whnf)
  refine ⟨rfl, rfl, ⟨rfl, flats_ints _, trivial⟩, ?_⟩
  ((repeat ((conv => whnf); first | refine brT ?_ | refine brF ?_)); conv => whnf)
  refine ⟨rfl, ?_⟩
  ((repeat ((conv => whnf); first | refine brT ?_ | refine brF ?_)); conv => whnf)
  refine ⟨_, eqIntS_spec R R, ?_⟩
  rw [eqIntS_refl]
  ((repeat ((conv => whnf); first | refine brT ?_ | refine brF ?_)); conv => whnf)
  rw [show notB true = false by simp [notB]]
  ((repeat ((conv => whnf); first | refine brT ?_ | refine brF ?_)); conv => whnf)
  refine ⟨by simp [marks_len], ?_⟩
  ((repeat ((conv => whnf); first | refine brT ?_ | refine brF ?_)); conv => whnf)
  refine ⟨_, heldIntS_spec 1 R.length (by omega) (by omega), ?_⟩
  ((repeat ((conv => whnf); first | refine brT ?_ | refine brF ?_)); conv => whnf)
  rw [show ltI (1 + (R.length : Int)) 0 = false by rw [ltI_f]; omega]
  ((repeat ((conv => whnf); first | refine brT ?_ | refine brF ?_)); conv => whnf)
  rw [show notB (eqI (1 + (R.length : Int)) (1 + (R.length : Int))) = false by simp [notB, eqI_refl]]
  ((repeat ((conv => whnf); first | refine brT ?_ | refine brF ?_)); conv => whnf)
  exact fin rfl
theorem law_halfSiblings (ps : List Per) (us : List Uni) (p : Int) (hf : FamOK ps us) : FSpec env.P 5 [famLV ps us, .int .i64 p] (.bool true) := by
  refine FSpec_of_code (E := env.x [23, 33, 27, 28] 0) env_ok.x (fn := Try.f5) Try.func5 rfl Try.call5 _ _ ?_
  ((repeat ((conv => whnf); first | refine brT ?_ | refine brF ?_)); conv => whnf)
  refine ⟨_, szFamily_spec ps us _, ?_⟩
  ((repeat ((conv => whnf); first | refine brT ?_ | refine brF ?_)); conv => whnf)
  (refine ⟨fun h => ?_, fun h => ?_⟩ <;> rw [h])
  · ((repeat ((conv => whnf); first | refine brT ?_ | refine brF ?_)); conv => whnf); exact fin rfl
  rw [ltI_f] at h
  obtain ⟨p1, u1, s1⟩ := szFam_ok (by omega) (by omega) hf h
  have hI := ints_h (half_impl ps us p)
  have hS := ints_f (ints_h (half_spec ps us p))
  have hl : (castL (halfL ps us p)).length ≤ 1048576 := by
    rw [castL_len]
    unfold halfL
    split
    · rename_i h
      obtain ⟨_, _, hl, _⟩ := hasP_in h
      exact Nat.le_trans (eldL_len _ _ _) (by omega)
    · simp
  generalize castL (halfL ps us p) = R at hI hS hl
  ((repeat ((conv => whnf); first | refine brT ?_ | refine brF ?_)); conv => whnf)
  refine ⟨[], _, _, _, _, toFamily_hm ps us p1 u1, rfl, rfl, rfl, trivial, ?_⟩
  ((repeat ((conv => whnf); first | refine brT ?_ | refine brF ?_)); conv => whnf)
  refine ⟨rfl, ?_⟩
  ((repeat ((conv => whnf); first | refine brT ?_ | refine brF ?_)); conv => whnf)
  refine ⟨rfl, ?_⟩
  ((repeat ((conv => whnf); first | refine brT ?_ | refine brF ?_)); conv => whnf)
  refine ⟨_, hS, ?_⟩
  rw [show flatT (rowOw R) = true from flat_ints R]
  ((repeat ((conv => whnf); first | refine brT ?_ | refine brF ?_)); conv => whnf)
  refine ⟨[], _, _, _, _, toFamily_hm ps us p1 u1, rfl, rfl, rfl, trivial, ?_⟩
  ((repeat ((conv => whnf); first | refine brT ?_ | refine brF ?_)); conv => whnf)
  refine ⟨[], _, _, _, _, hI, rfl, ?_⟩
  ((repeat ((conv => whnf); first | refine brT ?_ | refine brF ?_)); conv => whnf)
  refine ⟨rfl, ?_⟩
  ((repeat ((conv => whnf); first | refine brT ?_ | refine brF ?_)); conv => whnf)
  refine ⟨rfl, ?_⟩
  ((repeat ((conv => whnf); first | refine brT ?_ | refine brF ?_)); conv => whnf)
  refine ⟨rfl, rfl, ⟨rfl, flats_ints _, trivial⟩, ?_⟩
  ((repeat ((conv => whnf); first | refine brT ?_ | refine brF ?_)); conv => whnf)
  refine ⟨rfl, ?_⟩
  ((repeat ((conv => whnf); first | refine brT ?_ | refine brF ?_)); conv => whnf)
  refine ⟨_, eqIntS_spec R R, ?_⟩
  rw [eqIntS_refl]
  ((repeat ((conv => whnf); first | refine brT ?_ | refine brF ?_)); conv => whnf)
  rw [show notB true = false by simp [notB]]
  ((repeat ((conv => whnf); first | refine brT ?_ | refine brF ?_)); conv => whnf)
  refine ⟨true, by kernel_rfl, ?_⟩
  ((repeat ((conv => whnf); first | refine brT ?_ | refine brF ?_)); conv => whnf)
  refine ⟨_, toFamily_spec ps us p1 u1, ?_⟩
  ((repeat ((conv => whnf); first | refine brT ?_ | refine brF ?_)); conv => whnf)
  refine ⟨rfl, ?_⟩
  ((repeat ((conv => whnf); first | refine brT ?_ | refine brF ?_)); conv => whnf)
  refine ⟨rfl, ?_⟩
  ((repeat ((conv => whnf); first | refine brT ?_ | refine brF ?_)); conv => whnf)
  refine ⟨_, eqFamily_spec ps ps us us, ?_⟩
  rw [eqFam_refl]
  ((repeat ((conv => whnf); first | refine brT ?_ | refine brF ?_)); conv => whnf)
  rw [show notB true = false by simp [notB]]
  ((repeat ((conv => whnf); first | refine brT ?_ | refine brF ?_)); conv => whnf)
  refine ⟨[3, 4], _, _, _, _, markFamily_hm ps us 1 (by omega), rfl, rfl, rfl, trivial, ?_⟩
  ((repeat ((conv => whnf); first | refine brT ?_ | refine brF ?_)); conv => whnf)
  rw [show ltI ((1 + 6 * ps.length + 4 * us.length : Nat) : Int) 0 = false by rw [ltI_f]; omega]
  ((repeat ((conv => whnf); first | refine brT ?_ | refine brF ?_)); conv => whnf)
  refine ⟨rfl, ?_⟩
  ((repeat ((conv => whnf); first | refine brT ?_ | refine brF ?_)); conv => whnf)
  refine ⟨_, eqIntS_spec R R, ?_⟩
  rw [eqIntS_refl]
  ((repeat ((conv => whnf); first | refine brT ?_ | refine brF ?_)); conv => whnf)
  rw [show notB true = false by simp [notB]]
  ((repeat ((conv => whnf); first | refine brT ?_ | refine brF ?_)); conv => whnf)
  refine ⟨[6], _, _, _, _, markIntS_spec R _ rfl 1 (by omega) (by omega), rfl, rfl, rfl, trivial, ?_⟩
  ((repeat ((conv => whnf); first | refine brT ?_ | refine brF ?_)); conv => whnf)
  refine ⟨by simp [marks_len], ?_⟩
  ((repeat ((conv => whnf); first | refine brT ?_ | refine brF ?_)); conv => whnf)
  refine ⟨_, heldIntS_spec 1 R.length (by omega) (by omega), ?_⟩
  ((repeat ((conv => whnf); first | refine brT ?_ | refine brF ?_)); conv => whnf)
  rw [show ltI (1 + (R.length : Int)) 0 = false by rw [ltI_f]; omega]
  ((repeat ((conv => whnf); first | refine brT ?_ | refine brF ?_)); conv => whnf)
  rw [show notB (eqI (1 + (R.length : Int)) (1 + (R.length : Int))) = false by simp [notB, eqI_refl]]
  ((repeat ((conv => whnf); first | refine brT ?_ | refine brF ?_)); conv => whnf)
  refine ⟨[], _, _, _, _, toFamily_hm ps us p1 u1, rfl, rfl, rfl, trivial, ?_⟩
  ((repeat ((conv => whnf); first | refine brT ?_ | refine brF ?_)); conv => whnf)
  refine ⟨[], _, _, _, _, hI, rfl, ?_⟩
  ((repeat ((conv => whnf); first | refine brT ?_ | refine brF ?_)); conv => whnf)
  refine ⟨rfl, ?_⟩
  ((repeat ((conv => whnf); first | refine brT ?_ | refine brF ?_)); conv => whnf)
  refine ⟨rfl, ?_⟩
  ((repeat ((conv => whnf); first | refine brT ?_ | refine brF ?_)); conv => whnf)
  refine ⟨rfl, rfl, ⟨rfl, flats_ints _, trivial⟩, ?_⟩
  ((repeat ((conv => whnf); first | refine brT ?_ | refine brF ?_)); conv => whnf)
  refine ⟨rfl, ?_⟩
  ((repeat ((conv => whnf); first | refine brT ?_ | refine brF ?_)); conv => whnf)
  refine ⟨_, eqIntS_spec R R, ?_⟩
  rw [eqIntS_refl]
  ((repeat ((conv => whnf); first | refine brT ?_ | refine brF ?_)); conv => whnf)
  rw [show notB true = false by simp [notB]]
  ((repeat ((conv => whnf); first | refine brT ?_ | refine brF ?_)); conv => whnf)
  refine ⟨by simp [marks_len], ?_⟩
  ((repeat ((conv => whnf); first | refine brT ?_ | refine brF ?_)); conv => whnf)
  refine ⟨_, heldIntS_spec 1 R.length (by omega) (by omega), ?_⟩
  ((repeat ((conv => whnf); first | refine brT ?_ | refine brF ?_)); conv => whnf)
  rw [show ltI (1 + (R.length : Int)) 0 = false by rw [ltI_f]; omega]
  ((repeat ((conv => whnf); first | refine brT ?_ | refine brF ?_)); conv => whnf)
  rw [show notB (eqI (1 + (R.length : Int)) (1 + (R.length : Int))) = false by simp [notB, eqI_refl]]
  ((repeat ((conv => whnf); first | refine brT ?_ | refine brF ?_)); conv => whnf)
  exact fin rfl
end Go.Proofs.Ytplkockghigpdaa


namespace Go.Proofs.Ytplkockghigpdaa
open Go.Lg Go.RowKit Go.ChangeShapes Go.WideShapes Go.Deep Go.Joins
set_option linter.unusedVariables false
set_option linter.unusedSimpArgs false
set_option maxRecDepth 100000

theorem list_of {α : Type} {lv : α → LV} {Q : α → Prop} : ∀ (xs : List LV), (∀ x ∈ xs, ∃ p, x = lv p ∧ Q p) → ∃ ps : List α, xs = ps.map lv ∧ ∀ p ∈ ps, Q p
  | [], _ => ⟨[], rfl, by simp⟩
  | x :: xs, h => by
    obtain ⟨p, rfl, hp⟩ := h x (by simp)
    obtain ⟨ps, rfl, hps⟩ := list_of xs fun y hy => h y (by simp [hy])
    exact ⟨p :: ps, rfl, List.forall_mem_cons.2 ⟨hp, hps⟩⟩

section
variable {H : Type} {enc : TypeId × Value → H} {w : World}
end
end Go.Proofs.Ytplkockghigpdaa


namespace Go.Proofs.Ytplkockghigpdaa
open Go.Lg
set_option maxRecDepth 10000
set_option linter.unusedVariables false
set_option linter.unusedSimpArgs false

/-! ### A family, out of an argument's shape -/
abbrev shPer : Sh := .st [.str, .int .i64, .int .i64, .int .i64, .int .i64, .int .i64]
abbrev shUni : Sh := .st [.int .i64, .int .i64, .int .i64, .int .i64]
abbrev shFam : Sh := .st [.sl (.st [.str, .int .i64, .int .i64, .int .i64, .int .i64, .int .i64]), .sl (.st [.int .i64, .int .i64, .int .i64, .int .i64])]
theorem per_of_sh {x : LV} (h : hasSh shPer x) : ∃ p : Per, x = p.lv ∧ p.name.size ≤ maxLen := by
  simp only [hasSh] at h
  obtain ⟨xs, rfl, h⟩ := h
  match xs, h with
  | [a, b, c, d, e, f], h =>
    simp only [hasShs, hasSh] at h
    obtain ⟨⟨s, rfl, hs⟩, ⟨n1, rfl⟩, ⟨n2, rfl⟩, ⟨n3, rfl⟩, ⟨n4, rfl⟩, ⟨n5, rfl⟩, _⟩ := h
    exact ⟨⟨s, n1, n2, n3, n4, n5⟩, rfl, hs⟩
  | [], h => simp [hasShs] at h
  | [_], h => simp [hasShs] at h
  | [_, _], h => simp [hasShs] at h
  | [_, _, _], h => simp [hasShs] at h
  | [_, _, _, _], h => simp [hasShs] at h
  | [_, _, _, _, _], h => simp [hasShs] at h
  | _ :: _ :: _ :: _ :: _ :: _ :: _ :: _, h => simp [hasShs] at h
theorem uni_of_sh {x : LV} (h : hasSh shUni x) : ∃ u : Uni, x = u.lv ∧ True := by
  simp only [hasSh] at h
  obtain ⟨xs, rfl, h⟩ := h
  match xs, h with
  | [a, b, c, d], h =>
    simp only [hasShs, hasSh] at h
    obtain ⟨⟨n1, rfl⟩, ⟨n2, rfl⟩, ⟨n3, rfl⟩, ⟨n4, rfl⟩, _⟩ := h
    exact ⟨⟨n1, n2, n3, n4⟩, rfl, trivial⟩
  | [], h => simp [hasShs] at h
  | [_], h => simp [hasShs] at h
  | [_, _], h => simp [hasShs] at h
  | [_, _, _], h => simp [hasShs] at h
  | _ :: _ :: _ :: _ :: _ :: _, h => simp [hasShs] at h
theorem fam_of_sh {x : LV} (h : hasSh shFam x) : ∃ (ps : List Per) (us : List Uni), x = famLV ps us ∧ FamOK ps us := by
  simp only [hasSh] at h
  obtain ⟨xs, rfl, h⟩ := h
  match xs, h with
  | [a, b], h =>
    simp only [hasShs, hasSh] at h
    obtain ⟨⟨ys, rfl, hl, hy⟩, ⟨zs, rfl, hm, hz⟩, _⟩ := h
    obtain ⟨ps, rfl, hps⟩ := list_of (lv := Per.lv) (Q := fun p => p.name.size ≤ maxLen) ys fun y hy' => per_of_sh (by simp only [hasSh]; exact hy y hy')
    obtain ⟨us, rfl, _⟩ := list_of (lv := Uni.lv) (Q := fun _ => True) zs fun y hy' => uni_of_sh (by simp only [hasSh]; exact hz y hy')
    exact ⟨ps, us, rfl, ⟨by simpa using hl, by simpa using hm, hps⟩⟩
  | [], h => simp [hasShs] at h
  | [_], h => simp [hasShs] at h
  | _ :: _ :: _ :: _, h => simp [hasShs] at h
end Go.Proofs.Ytplkockghigpdaa


set_option linter.unusedVariables false
set_option linter.unusedSimpArgs false
/-! slices.Repeat of one number, walked at this program. -/
namespace Go.Proofs.SB
open Go.RowKit
set_option maxHeartbeats 2000000
set_option maxRecDepth 100000
theorem mulOne (n : Nat) (hn : n ≤ 40) (w : World) : Calls Try.prog 212 #[.int .u64 1, .int .u64 n] w fun e w' => e = .returned (.tuple #[.int .u64 0, .int .u64 n]) ∧ w' = w := by
  have a1 : bits .and .u64 1 4294967295 = 1 := by decide
  have a2 : bits .and .u64 (n : Int) 4294967295 = n := by
    have h := bits_and_u64_nat n 4294967295 (by omega) (by omega)
    rw [show ((4294967295 : Nat) : Int) = 4294967295 from rfl] at h
    rw [h]
    congr 1
    have : n &&& 2 ^ 32 - 1 = n % 2 ^ 32 := Nat.and_two_pow_sub_one_eq_mod n 32
    rw [show (4294967295 : Nat) = 2 ^ 32 - 1 from rfl, this]
    exact Nat.mod_eq_of_lt (by omega)
  have a3 : (n : Int) / 4294967296 = 0 := by omega
  have a4 : bits .and .u64 0 4294967295 = 0 := by decide
  go_enter Try.func212, Try.ntmps212
  go_wp2
  go_ret2
  exact ⟨rfl, rfl⟩
theorem mulOne' (n : Nat) (hn : n ≤ 40) (w : World) : Calls Try.prog 178 #[.int .u64 1, .int .u64 n] w fun e w' => e = .returned (.tuple #[.int .u64 0, .int .u64 n]) ∧ w' = w := by
  go_enter Try.func178, Try.ntmps178
  go_wp2_with (go_at_call 212; refine (mulOne n hn _).mono ?_; rintro e w' ⟨rfl, rfl⟩)
  go_ret2
  exact ⟨rfl, rfl⟩
theorem wrap64n (n : Nat) (hn : n ≤ 40) : IntKind.i64.wrap (n : Int) = n := by rw [IntKind.wrap_i64]; omega
theorem wrapU64n (n : Nat) (hn : n ≤ 40) : IntKind.u64.wrap (n : Int) = n := by rw [IntKind.wrap_u64]; omega
theorem intInfo : (Try.prog.info? 3).map (fun i => (i.zero, i.size, i.bytes)) = some (some (.int .i64 0), 1, 8) := by kernel_rfl
theorem intSize : (Try.prog.info? 3).map (·.size) = some 1 := by kernel_rfl
/-- So many of the number stand in a row, zeros behind them. -/
def part (c : Int) (n k : Nat) : List Value := List.replicate k (.int .i64 c) ++ List.replicate (n - k) (.int .i64 0)
theorem part_len {c : Int} {n k : Nat} (h : k ≤ n) : (part c n k).length = n := by simp [part]; omega
theorem part_start (c : Int) (n : Nat) : part c n 0 = List.replicate n (.int .i64 0) := by simp [part]
theorem part_all (c : Int) (n : Nat) : part c n n = List.replicate n (.int .i64 c) := by simp [part]
theorem part_splice {c : Int} {n k m : Nat} (h : k + m ≤ n) : splice (part c n k) k (List.replicate m (.int .i64 c)) = part c n (k + m) := by
  unfold splice part
  rw [List.take_append_of_le_length (by simp), List.take_of_length_le (by simp), List.length_replicate, List.drop_append, List.drop_eq_nil_of_le (by simp), List.length_replicate, List.nil_append, List.drop_replicate, ← List.append_assoc, List.replicate_append_replicate]
  congr 2
  omega
theorem part_get {c : Int} {n k j : Nat} (h : j < k) : (part c n k)[j]? = some (.int .i64 c) := by
  unfold part
  rw [List.getElem?_append_left (by simp [h]), List.getElem?_replicate, if_pos h]
theorem made_zero (n : Nat) : madeCells #[(.int .i64 0 : Value)] n = (List.replicate n (.int .i64 0 : Value)).toArray := by
  refine Array.ext (by simp [madeCells]) fun i h1 h2 => ?_
  simp [madeCells, Nat.mod_one]
theorem addr0 (b j : Nat) : (⟨b, 0, none⟩ : Addr).add j = ⟨b, j, none⟩ := by unfold Addr.add; split <;> simp_all
/-- What one copy of the row's head behind itself does. -/
theorem copyStep {c : Int} {n k m : Nat} {g B : Nat} {w w0 : World} (ad : Addr) (dl dc sl sc : Nat) (new : w.heap[g]? = some (.cells (part c n k).toArray 3 (0, 0))) (hb : Below B w0 w ∧ w0.drawn ≤ w.drawn) (hB : B ≤ g) (hk : k + m ≤ n) (hm : m = Nat.min sl dl)
    (src : ∀ j, j < m → w.cell? (ad.add j) = some (.int .i64 c)) :
    ∃ w', (Builtin.copy_ #[27, 27] 3 #[.slice (some ⟨g, k, none⟩) dl dc, .slice (some ad) sl sc]).run Try.prog w = .ok (goInt m) w' ∧ w'.heap[g]? = some (.cells (part c n (k + m)).toArray 3 (0, 0)) ∧ Below B w0 w' ∧ w0.drawn ≤ w'.drawn := by
  have hl : (List.replicate m (Value.int .i64 c)).length = m := by simp
  have c0 := run_copy_row (P := Try.prog) w 27 27 3 3 g k dl dc ad sl sc (part c n k).toArray 3 (List.replicate m (.int .i64 c)) Try.underlying27 intSize new (by rw [hl, hm])
    (fun j v hv => by
      rw [List.getElem?_replicate] at hv
      split at hv
      · rename_i h
        simp only [Option.some.injEq] at hv
        subst hv; exact src j h
      · cases hv) (by rw [List.size_toArray, part_len (by omega), hl]; omega) (by intro v hv; rw [(List.mem_replicate.1 hv).2]; rfl)
  rw [hl] at c0
  refine ⟨_, c0, ?_, below_setRow hb.1 hB _, hb.2⟩
  rw [setRow_heap w g _ _ _ _ new, ← part_splice hk]
  unfold splice
  simp
theorem repeatRun (w : World) (ad : Addr) (cap : Nat) (c : Int) (n : Nat) (h1 : 1 ≤ n) (hn : n ≤ 40) (hcell : w.cell? ad = some (.int .i64 c)) (hlt : ad.block < w.heap.size) :
    Calls Try.prog 145 #[.slice (some ad) 1 cap, .int .i64 n] w fun e w' => e = .returned (.slice (some ⟨w.heap.size, 0, none⟩) n n) ∧
      w'.heap[w.heap.size]? = some (.cells (List.replicate n (Value.int .i64 c)).toArray 3 (0, 0)) ∧ Below w.heap.size w w' ∧ w.drawn ≤ w'.drawn := by
  have e1 := wrap64n n hn
  have e2 := wrapU64n n hn
  have old : (w.alloc (.cells (List.replicate n (.int .i64 0 : Value)).toArray 3)).cell? ad = some (.int .i64 c) := by
    rw [← hcell]; exact World.cell?_alloc_some _ _ _ (by rw [hcell]; rfl)
  have new : (w.alloc (.cells (List.replicate n (.int .i64 0 : Value)).toArray 3)).heap[w.heap.size]? = some (.cells (part c n 0).toArray 3 (0, 0)) := by
    rw [part_start]; unfold World.alloc; exact Array.getElem?_push_size ..
  have b0 : Below w.heap.size w (w.alloc (.cells (List.replicate n (.int .i64 0 : Value)).toArray 3)) ∧ w.drawn ≤ (w.alloc (.cells (List.replicate n (.int .i64 0 : Value)).toArray 3)).drawn := ⟨(Below.refl _ w).alloc (Nat.le_refl _) _, Nat.le_refl _⟩
  go_enter Try.func145, Try.ntmps145
  go_wp2_with (go_at_call 178; refine (mulOne' n hn _).mono ?_; rintro e w' ⟨rfl, rfl⟩)
  rw [run_make_row' 27 3 (.int .i64 0) 8 Try.underlying27 intInfo rfl _ _ n (by omega) (by omega)]
  simp only [Result.andThen]
  rw [Oper.upon_value]
  rw [made_zero]
  generalize w'.alloc (.cells (List.replicate n (.int .i64 0 : Value)).toArray 3) = W at old new b0 ⊢
  obtain ⟨W1, c0, new1, b1⟩ := copyStep (m := 1) ad n n 1 cap new b0 (Nat.le_refl _) (by omega) (Nat.min_eq_left h1).symm (fun j hj => by
    obtain rfl : j = 0 := by omega
    simpa [Addr.add] using old)
  go_wp2
  rw [Nat.zero_add] at new1
  clear c0 new b0 old
  go_loopg [8] n (fun g x wr => ∃ k : Nat, x = .int .i64 k ∧ 1 ≤ k ∧ k ≤ n ∧ n - k ≤ g ∧ Hid (wr.heap[w'.heap.size]? = some (.cells (part c n k).toArray 3 (0, 0))) ∧ Below w'.heap.size w' wr ∧ w'.drawn ≤ wr.drawn)
  case atStart => exact ⟨1, rfl, Nat.le_refl _, h1, by omega, new1, b1⟩
  case round =>
    obtain ⟨k, rfl, k1, kn, kg, new2, b2⟩ := hrel
    have new2 := new2.out
    by_cases hlt : k < n
    · have hltz : (k : Int) < (n : Int) := by omega
      have hnk : ¬ n = k := by omega
      obtain ⟨m, hm⟩ : ∃ m, m = Nat.min k (n - k) := ⟨_, rfl⟩
      have hm1 : m ≤ k := by rw [hm]; exact Nat.min_le_left ..
      have hm2 : m ≤ n - k := by rw [hm]; exact Nat.min_le_right ..
      have hm3 : 1 ≤ m := by rw [hm]; exact Nat.le_min.2 ⟨k1, by omega⟩
      obtain ⟨W2, c2, new3, b3⟩ := copyStep (w := wr.drew) (m := m) ⟨w'.heap.size, 0, none⟩ (n - k) (n - k) k n new2 ⟨Below.drew b2.1, Nat.le_trans b2.2 (Nat.le_succ _)⟩ (Nat.le_refl _) (by omega) hm (fun j hj => by
        rw [addr0]
        show wr.cell? ⟨w'.heap.size, j, none⟩ = _
        simp only [World.cell?, new2]
        simpa using part_get (c := c) (n := n) (k := k) (j := j) (by omega))
      have w3 : IntKind.i64.wrap ((k : Int) + (m : Int)) = ((k + m : Nat) : Int) := by rw [IntKind.wrap_i64]; omega
      clear hm
      go_wp2
      go_region
      go_wp2
      go_roundg (n - (k + m))
      case measure => omega
      case rel => exact ⟨k + m, by simp, by omega, by omega, Nat.le_refl _, new3, b3⟩
    · have hltz : ¬ (k : Int) < (n : Int) := by omega
      obtain rfl : k = n := by omega
      go_wp2
      go_ret
      exact ⟨rfl, by rw [part_all] at new2; simpa using new2, b2⟩
end Go.Proofs.SB


namespace Go.Proofs.Ytplkockghigpdaa
open Go.Lg Go.RowKit
set_option maxHeartbeats 1600000
set_option maxRecDepth 10000
set_option linter.unusedVariables false
set_option linter.unusedSimpArgs false

theorem sim_none {X : Nat → Prop} {B : Nat} {w : World} {pl : Nat → PV} (g : Go.Lg.Good X B ⟨w, [], pl⟩ [] pl w) : Sim X B ⟨w, [], pl⟩ ⟨[], []⟩ ⟨#[], []⟩ w pl :=
  ⟨g, rfl, rfl, fun t x h => by simp at h, ⟨Nat.le_refl _, fun _ _ _ => rfl, fun _ _ h => h, fun _ _ _ h => h, fun _ _ _ _ h => h⟩⟩
theorem RCs_ints (ρ : Ctx) (c : Int) : ∀ n, RCs ρ (List.replicate n (LV.int .i64 c)) (List.replicate n (Value.int .i64 c))
  | 0 => by simp only [List.replicate, RCs]
  | n + 1 => by
    simp only [List.replicate, RCs]
    exact ⟨[.int .i64 c], List.replicate n (.int .i64 c), rfl, by simp only [RC], RCs_ints ρ c n⟩
/-- slices.Repeat of one number. -/
theorem repeat_h (c : Int) (n : Nat) (h1 : 1 ≤ n) (hn : n ≤ 40) :
    HSpec env.P 145 [.sl [.int .i64 c], .int .i64 (n : Int)] [] (.hs 0 (List.replicate n (LV.int .i64 c)).length) [.arr 3 1 (List.replicate n (LV.int .i64 c))] := by
  unfold HSpec
  refine ⟨Try.call145, fun X B w vs pl g hsz hargs => ?_⟩
  obtain ⟨v0, v1, rfl⟩ : ∃ v0 v1, vs = #[v0, v1] := by
    obtain ⟨vl⟩ := vs
    match vl, hsz with
    | [a, b], _ => exact ⟨a, b, rfl⟩
  have a0 := hargs 0 _ v0 rfl rfl
  have a1 := hargs 1 _ v1 rfl rfl
  simp only [RT, RT1, RC, RCs] at a0 a1
  simp only [List.cons.injEq, and_true] at a0 a1
  obtain ⟨a, cap, rfl, hc1, hc2, hz | ⟨ad, es, k, rfl, hb, ho, ⟨c1, c2, rfl, rfl, rfl⟩, hcells, hk⟩⟩ := a0
  · cases hz
  subst a1
  have hcell : w.cell? ad = some (.int .i64 c) := by
    have := hcells.2 0 (.int .i64 c) (by simp)
    change w.cell? _ = _ at this
    obtain ⟨blk, off, spot⟩ := ad
    have hs : spot = none := hcells.1
    subst hs
    simpa using this
  refine (SB.repeatRun w ad cap c n h1 hn hcell hb).mono ?_
  rintro e w' ⟨rfl, hrow, hbel0, hinc⟩
  have hbel : Go.Lg.Below w.heap.size w w' := ⟨hbel0.os, hbel0.tape, hbel0.output, hbel0.size, hbel0.block, hinc⟩
  have hl : (List.replicate n (LV.int .i64 c)).length = n := by simp
  have hown : w'.ownsRow B 3 1 (.slice (some ⟨w.heap.size, 0, none⟩) (List.replicate n (LV.int .i64 c)).length n) (List.replicate n (LV.int .i64 c)).length (List.replicate n (Value.int .i64 c)) := by
    rw [hl]
    exact ⟨by simp, .inr ⟨_, n, _, rfl, g.base.1, hrow, Nat.le_refl _, by unfold Go.maxLen; omega, by simp, by simp [List.take_replicate]⟩⟩
  obtain ⟨pl', s', r', le'⟩ := sim_newArr (sim_none g) (e := 3) (k := 1) (cap := n) (xs := List.replicate n (LV.int .i64 c)) (es := List.replicate n (Value.int .i64 c)) hbel hown (RCs_ints _ c n)
    (by intro x hx; rw [(List.mem_replicate.1 hx).2]; rfl) (by omega)
  rw [hl] at r'
  refine ⟨_, pl', rfl, s'.good, ?_, le'⟩
  rw [hl]; exact r'
end Go.Proofs.Ytplkockghigpdaa

