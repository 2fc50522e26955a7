/- Contracts of functions of the program and of its model, told over readings. -/
import Derived.Test.YtdhmnojnkgmmnaaAWGF
import Derived.Test.YtdhmnojnkgmmnaaAWGD
import Derived.Test.YtdhmnojnkgmmnaaAWGC
import Derived.Test.YtdhmnojnkgmmnaaAWGA
import Derived.Test.YtdhmnojnkgmmnaaALgW
namespace Go.Proofs.Ytdhmnojnkgmmnaa
open Go.Lg
set_option maxHeartbeats 3200000
set_option maxRecDepth 10000
set_option linter.unusedVariables false
set_option linter.unusedSimpArgs false

/-! ### Steps in a family, as the program has them -/
def comB (y : Per) (n : Int) : Bool := eqI y.father n || eqI y.mother n
def comN (x y : Per) : Nat := ((known x).filter (comB y)).length
def comTo (x y : Per) (k : Nat) : Nat := (((known x).take k).filter (comB y)).length
theorem comTo_succ {x y : Per} {k : Nat} (h : k < (known x).length) : comTo x y (k + 1) = comTo x y k + (if comB y (known x)[k] = true then 1 else 0) := by
  unfold comTo
  rw [List.take_succ_eq_append_getElem h, List.filter_append, List.length_append]
  congr 1
  by_cases e : comB y (known x)[k] = true <;> simp [List.filter, e]
theorem comTo_le (x y : Per) (k : Nat) : comTo x y k ≤ 2 := by
  unfold comTo
  refine Nat.le_trans (List.length_filter_le _ _) ?_
  have := known_len x
  simp; omega
theorem parentsInCommon_spec (ps : List Per) (us : List Uni) (a b : Nat) (ha : a < ps.length) (hb : b < ps.length) :
    FSpec env.P 159 [famLV ps us, .int .i64 (a : Int), .int .i64 (b : Int)] (.int .i64 ((comN ps[a] ps[b] : Nat) : Int)) := by
  refine FSpec_of_code env_ok (fn := Try.f159) Try.func159 rfl Try.call159 _ _ ?_
  have hga : (List.map Per.lv ps)[a]? = some ps[a].lv := by simp [ha]
  have hgb : (List.map Per.lv ps)[b]? = some ps[b].lv := by simp [hb]
  generalize ps[a] = x at hga ⊢
  generalize ps[b] = y at hgb ⊢
  ((repeat ((conv => whnf); first | refine brT ?_ | refine brF ?_)); conv => whnf)
  refine ⟨a, x.lv, rfl, hga, rfl, ?_⟩
  ((repeat ((conv => whnf); first | refine brT ?_ | refine brF ?_)); conv => whnf)
  refine ⟨_, knownParents_spec x, ?_⟩
  ((repeat ((conv => whnf); first | refine brT ?_ | refine brF ?_)); conv => whnf)
  intro _
  rw [show (List.map intLV (known x)).length = (known x).length by simp]
  ((repeat ((conv => whnf); first | refine brT ?_ | refine brF ?_)); conv => whnf)
  refine loop_rule (α := Nat) (fun k => [(17, .int .i64 (k : Int)), (7, .int .i64 ((comTo x y k : Nat) : Int))]) (fun k => [.box (famLV ps us)]) (fun k => (known x).length - k) (fun k => k ≤ (known x).length) 0 (Nat.zero_le _) ?_ ?_
  · refine ⟨?_, ⟨rfl, trivial⟩, rfl, rfl⟩
    ((repeat ((conv => whnf); refine ⟨rfl, ?_⟩)); trivial)
  intro k hk
  ((repeat ((conv => whnf); first | refine brT ?_ | refine brF ?_)); conv => whnf)
  (refine ⟨fun g => ?_, fun g => ?_⟩ <;> rw [g])
  · have hlt : k < (known x).length := by rw [ltI_t] at g; omega
    have h2 := known_len x
    have e1 := step_i (n := 40) (k := k) (by omega) (by decide)
    have hc := comTo_le x y k
    have hs := comTo_succ (y := y) hlt
    ((repeat ((conv => whnf); first | refine brT ?_ | refine brF ?_)); conv => whnf)
    refine ⟨k, intLV (known x)[k], rfl, by simp [hlt], rfl, ?_⟩
    ((repeat ((conv => whnf); first | refine brT ?_ | refine brF ?_)); conv => whnf)
    refine ⟨b, y.lv, rfl, hgb, rfl, ?_⟩
    ((repeat ((conv => whnf); first | refine brT ?_ | refine brF ?_)); conv => whnf)
    (refine ⟨fun q1 => ?_, fun q1 => ?_⟩ <;> rw [q1])
    · have e2 : LV.int .i64 (IntKind.i64.wrap ((comTo x y k : Nat) + 1)) = LV.int .i64 ((comTo x y (k + 1) : Nat) : Int) := by
        rw [hs, if_pos (by simp [comB, q1]), wrap64 (by omega) (by omega)]; congr 1
      ((repeat ((conv => whnf); first | refine brT ?_ | refine brF ?_)); conv => whnf)
      refine round_end (k + 1) hlt (by omega) ⟨?_, ⟨rfl, trivial⟩, rfl, rfl⟩
      repeat ((conv => whnf); first | refine ⟨e1, ?_⟩ | refine ⟨e2, ?_⟩ | refine ⟨rfl, ?_⟩)
      trivial
    · ((repeat ((conv => whnf); first | refine brT ?_ | refine brF ?_)); conv => whnf)
      refine ⟨b, y.lv, rfl, hgb, rfl, ?_⟩
      ((repeat ((conv => whnf); first | refine brT ?_ | refine brF ?_)); conv => whnf)
      (refine ⟨fun q2 => ?_, fun q2 => ?_⟩ <;> rw [q2])
      · have e2 : LV.int .i64 (IntKind.i64.wrap ((comTo x y k : Nat) + 1)) = LV.int .i64 ((comTo x y (k + 1) : Nat) : Int) := by
          rw [hs, if_pos (by simp [comB, q2]), wrap64 (by omega) (by omega)]; congr 1
        ((repeat ((conv => whnf); first | refine brT ?_ | refine brF ?_)); conv => whnf)
        refine round_end (k + 1) hlt (by omega) ⟨?_, ⟨rfl, trivial⟩, rfl, rfl⟩
        repeat ((conv => whnf); first | refine ⟨e1, ?_⟩ | refine ⟨e2, ?_⟩ | refine ⟨rfl, ?_⟩)
        trivial
      · have e2 : LV.int .i64 ((comTo x y k : Nat) : Int) = LV.int .i64 ((comTo x y (k + 1) : Nat) : Int) := by
          rw [hs, if_neg (by simp [comB, q1, q2])]; rfl
        ((repeat ((conv => whnf); first | refine brT ?_ | refine brF ?_)); conv => whnf)
        refine round_end (k + 1) hlt (by omega) ⟨?_, ⟨rfl, trivial⟩, rfl, rfl⟩
        repeat ((conv => whnf); first | refine ⟨e1, ?_⟩ | refine ⟨e2, ?_⟩ | refine ⟨rfl, ?_⟩)
        trivial
  · have h3 : k = (known x).length := by rw [ltI_f] at g; omega
    subst h3
    ((repeat ((conv => whnf); first | refine brT ?_ | refine brF ?_)); conv => whnf)
    exact ⟨rfl, by unfold comN comTo; rw [List.take_length], List.nodup_nil⟩
def sibB (x y : Per) (a b : Int) : Bool := notB (eqI a b) && eqI ((comN x y : Nat) : Int) 2
theorem areFullSiblings_spec (ps : List Per) (us : List Uni) (a b : Nat) (ha : a < ps.length) (hb : b < ps.length) :
    FSpec env.P 157 [famLV ps us, .int .i64 (a : Int), .int .i64 (b : Int)] (.bool (sibB ps[a] ps[b] a b)) := by
  refine FSpec_of_code env_ok (fn := Try.f157) Try.func157 rfl Try.call157 _ _ ?_
  ((repeat' (((repeat ((conv => whnf); first | refine brT ?_ | refine brF ?_)); conv => whnf); first | (refine And.intro ?_ ?_ <;> (intro h; rw [h]; revert h; intro _)) | (refine Exists.intro true (And.intro (a := drawB _ _ = true) (by kernel_rfl) ?_)) | (refine Exists.intro _ (And.intro (parentsInCommon_spec ps us a b ha hb) ?_)))); all_goals ((repeat ((conv => whnf); first | refine brT ?_ | refine brF ?_)); conv => whnf))
  all_goals (refine fin ?_; simp_all [sibB])
def ageX (ps : List Per) (g a b : Int) : Bool := match eqI g 1 with | true => elder ps b a | false => match eqI g 2 with | true => elder ps a b | false => true
theorem isOfAge_spec (ps : List Per) (us : List Uni) (g : Int) (a b : Nat) (ha : a < ps.length) (hb : b < ps.length) :
    FSpec env.P 316 [famLV ps us, .int .i64 g, .int .i64 (a : Int), .int .i64 (b : Int)] (.bool (ageX ps g a b)) := by
  refine FSpec_of_code env_ok (fn := Try.f316) Try.func316 rfl Try.call316 _ _ ?_
  ((repeat' (((repeat ((conv => whnf); first | refine brT ?_ | refine brF ?_)); conv => whnf); first | (refine And.intro ?_ ?_ <;> (intro h; rw [h]; revert h; intro _)) | (refine Exists.intro true (And.intro (a := drawB _ _ = true) (by kernel_rfl) ?_)) | (refine Exists.intro _ (And.intro (compareAge_spec ps us (b : Int) (a : Int) (by omega) (by simpa using hb) (by omega) (by simpa using ha)) ?_)) | (refine Exists.intro _ (And.intro (compareAge_spec ps us (a : Int) (b : Int) (by omega) (by simpa using ha) (by omega) (by simpa using hb)) ?_)))); all_goals ((repeat ((conv => whnf); first | refine brT ?_ | refine brF ?_)); conv => whnf))
  all_goals (refine fin ?_; simp only [age_elder, ageX, *])
def chB (x : Per) (b : Int) : Bool := eqI x.father b || eqI x.mother b
theorem link1_spec (ps : List Per) (us : List Uni) (a b : Nat) (ha : a < ps.length) :
    FSpec env.P 314 [.int .i64 (a : Int), .int .i64 (b : Int), .ref (famLV ps us)] (.bool (chB ps[a] b)) := by
  refine FSpec_of_code env_ok (fn := Try.f314) Try.func314 rfl Try.call314 _ _ ?_
  have hga : (List.map Per.lv ps)[a]? = some ps[a].lv := by simp [ha]
  generalize ps[a] = x at hga ⊢
  ((repeat ((conv => whnf); first | refine brT ?_ | refine brF ?_)); conv => whnf)
  refine ⟨a, x.lv, rfl, hga, rfl, ?_⟩
  ((repeat ((conv => whnf); first | refine brT ?_ | refine brF ?_)); conv => whnf)
  (refine ⟨fun h => ?_, fun h => ?_⟩ <;> rw [h])
  · ((repeat ((conv => whnf); first | refine brT ?_ | refine brF ?_)); conv => whnf)
    refine fin ?_
    simp [chB, h]
  · ((repeat ((conv => whnf); first | refine brT ?_ | refine brF ?_)); conv => whnf)
    refine ⟨a, x.lv, rfl, hga, rfl, ?_⟩
    ((repeat ((conv => whnf); first | refine brT ?_ | refine brF ?_)); conv => whnf)
    refine fin ?_
    simp [chB, h]
theorem link2_spec (ps : List Per) (us : List Uni) (s : Pr) (a b : Nat) (ha : a < ps.length) (hb : b < ps.length) :
    FSpec env.P 315 [.int .i64 (a : Int), .int .i64 (b : Int), .ref (famLV ps us), .ref s.lv] (.bool (sibB ps[a] ps[b] a b && ageX ps s.b a b)) := by
  refine FSpec_of_code env_ok (fn := Try.f315) Try.func315 rfl Try.call315 _ _ ?_
  ((repeat' (((repeat ((conv => whnf); first | refine brT ?_ | refine brF ?_)); conv => whnf); first | (refine And.intro ?_ ?_ <;> (intro h; rw [h]; revert h; intro _)) | (refine Exists.intro true (And.intro (a := drawB _ _ = true) (by kernel_rfl) ?_)) | (refine Exists.intro _ (And.intro (areFullSiblings_spec ps us a b ha hb) ?_)) | (refine Exists.intro _ (And.intro (isOfAge_spec ps us s.b a b ha hb) ?_)))); all_goals ((repeat ((conv => whnf); first | refine brT ?_ | refine brF ?_)); conv => whnf))
  all_goals (refine fin ?_; simp_all)
theorem link3_spec (ps : List Per) (us : List Uni) (a b : Nat) (hb : b < ps.length) :
    FSpec env.P 317 [.int .i64 (a : Int), .int .i64 (b : Int), .ref (.clos 314 [.ref (famLV ps us)])] (.bool (chB ps[b] a)) := by
  refine FSpec_of_code env_ok (fn := Try.f317) Try.func317 rfl Try.call317 _ _ ?_
  ((repeat ((conv => whnf); first | refine brT ?_ | refine brF ?_)); conv => whnf)
  refine ⟨_, link1_spec ps us b a hb, ?_⟩
  ((repeat ((conv => whnf); first | refine brT ?_ | refine brF ?_)); conv => whnf)
  exact fin rfl
theorem link4_spec (ps : List Per) (us : List Uni) (a b : Int) : FSpec env.P 318 [.int .i64 a, .int .i64 b, .ref (famLV ps us)] (.bool (us.any (unitedOf b a))) := by
  refine FSpec_of_code env_ok (fn := Try.f318) Try.func318 rfl Try.call318 _ _ ?_
  ((repeat ((conv => whnf); first | refine brT ?_ | refine brF ?_)); conv => whnf)
  refine ⟨_, isUnited_spec us b a, ?_⟩
  ((repeat ((conv => whnf); first | refine brT ?_ | refine brF ?_)); conv => whnf)
  exact fin rfl
theorem link5_spec (ps : List Per) (us : List Uni) (a b : Int) : FSpec env.P 319 [.int .i64 a, .int .i64 b, .ref (famLV ps us)] (.bool (us.any (unitedOf a b))) := by
  refine FSpec_of_code env_ok (fn := Try.f319) Try.func319 rfl Try.call319 _ _ ?_
  ((repeat ((conv => whnf); first | refine brT ?_ | refine brF ?_)); conv => whnf)
  refine ⟨_, isUnited_spec us a b, ?_⟩
  ((repeat ((conv => whnf); first | refine brT ?_ | refine brF ?_)); conv => whnf)
  exact fin rfl
end Go.Proofs.Ytdhmnojnkgmmnaa

namespace Go.Proofs.Ytdhmnojnkgmmnaa
open Go.Lg
set_option maxHeartbeats 3200000
set_option maxRecDepth 10000
set_option linter.unusedVariables false
set_option linter.unusedSimpArgs false

theorem linkOf_a (ps : List Per) (us : List Uni) (s : Pr) (hk : (eqI s.a 1 || eqI s.a 2) = true) : HSpec env.P 277 [famLV ps us, s.lv] [] (.clos 314 [.hp 0 0 []]) [.box (famLV ps us), .box s.lv, .box (.clos 314 [.hp 0 0 []])] := by
  refine HSpec_of_code (E := env.x [] 0) env_ok.x (fn := Try.f277) Try.func277 rfl Try.call277 _ _ _ _ ?_
  ((repeat ((conv => whnf); first | refine brT ?_ | refine brF ?_)); conv => whnf)
  (refine ⟨fun h1 => ?_, fun h1 => ?_⟩ <;> rw [h1])
  · ((repeat ((conv => whnf); first | refine brT ?_ | refine brF ?_)); conv => whnf)
    exact ⟨[.clos 314 [.hp 0 0 []]], rfl, rfl, .inl ⟨⟨rfl, trivial⟩, ⟨rfl, rfl, rfl, trivial⟩, rfl, rfl⟩⟩
  have h2 : eqI s.a 2 = true := by simpa [h1] using hk
  ((repeat ((conv => whnf); first | refine brT ?_ | refine brF ?_)); conv => whnf)
  rw [h2]
  ((repeat ((conv => whnf); first | refine brT ?_ | refine brF ?_)); conv => whnf)
  exact ⟨[.clos 314 [.hp 0 0 []]], rfl, rfl, .inl ⟨⟨rfl, trivial⟩, ⟨rfl, rfl, rfl, trivial⟩, rfl, rfl⟩⟩
theorem linkOf_b (ps : List Per) (us : List Uni) (s : Pr) (h1 : eqI s.a 1 = false) (h2 : eqI s.a 2 = false) (hk : (eqI s.a 3 || eqI s.a 4) = true) : HSpec env.P 277 [famLV ps us, s.lv] [] (.clos 315 [.hp 0 0 [], .hp 1 0 []]) [.box (famLV ps us), .box s.lv, .box (.clos 314 [.hp 0 0 []])] := by
  refine HSpec_of_code (E := env.x [] 0) env_ok.x (fn := Try.f277) Try.func277 rfl Try.call277 _ _ _ _ ?_
  ((repeat ((conv => whnf); first | refine brT ?_ | refine brF ?_)); conv => whnf)
  rw [h1]
  ((repeat ((conv => whnf); first | refine brT ?_ | refine brF ?_)); conv => whnf)
  rw [h2]
  ((repeat ((conv => whnf); first | refine brT ?_ | refine brF ?_)); conv => whnf)
  (refine ⟨fun h3 => ?_, fun h3 => ?_⟩ <;> rw [h3])
  · ((repeat ((conv => whnf); first | refine brT ?_ | refine brF ?_)); conv => whnf)
    exact ⟨[.clos 315 [.hp 0 0 [], .hp 1 0 []]], rfl, rfl, .inl ⟨⟨rfl, trivial⟩, ⟨rfl, rfl, rfl, trivial⟩, rfl, rfl⟩⟩
  have h4 : eqI s.a 4 = true := by simpa [h3] using hk
  ((repeat ((conv => whnf); first | refine brT ?_ | refine brF ?_)); conv => whnf)
  rw [h4]
  ((repeat ((conv => whnf); first | refine brT ?_ | refine brF ?_)); conv => whnf)
  exact ⟨[.clos 315 [.hp 0 0 [], .hp 1 0 []]], rfl, rfl, .inl ⟨⟨rfl, trivial⟩, ⟨rfl, rfl, rfl, trivial⟩, rfl, rfl⟩⟩
theorem linkOf_c (ps : List Per) (us : List Uni) (s : Pr) (h1 : eqI s.a 1 = false) (h2 : eqI s.a 2 = false) (h3 : eqI s.a 3 = false) (h4 : eqI s.a 4 = false) (hk : (eqI s.a 5 || eqI s.a 6) = true) : HSpec env.P 277 [famLV ps us, s.lv] [] (.clos 317 [.hp 2 0 []]) [.box (famLV ps us), .box s.lv, .box (.clos 314 [.hp 0 0 []])] := by
  refine HSpec_of_code (E := env.x [] 0) env_ok.x (fn := Try.f277) Try.func277 rfl Try.call277 _ _ _ _ ?_
  ((repeat ((conv => whnf); first | refine brT ?_ | refine brF ?_)); conv => whnf)
  rw [h1]
  ((repeat ((conv => whnf); first | refine brT ?_ | refine brF ?_)); conv => whnf)
  rw [h2]
  ((repeat ((conv => whnf); first | refine brT ?_ | refine brF ?_)); conv => whnf)
  rw [h3]
  ((repeat ((conv => whnf); first | refine brT ?_ | refine brF ?_)); conv => whnf)
  rw [h4]
  ((repeat ((conv => whnf); first | refine brT ?_ | refine brF ?_)); conv => whnf)
  (refine ⟨fun h5 => ?_, fun h5 => ?_⟩ <;> rw [h5])
  · ((repeat ((conv => whnf); first | refine brT ?_ | refine brF ?_)); conv => whnf)
    exact ⟨[.clos 317 [.hp 2 0 []]], rfl, rfl, .inl ⟨⟨rfl, trivial⟩, ⟨rfl, rfl, rfl, trivial⟩, rfl, rfl⟩⟩
  have h6 : eqI s.a 6 = true := by simpa [h5] using hk
  ((repeat ((conv => whnf); first | refine brT ?_ | refine brF ?_)); conv => whnf)
  rw [h6]
  ((repeat ((conv => whnf); first | refine brT ?_ | refine brF ?_)); conv => whnf)
  exact ⟨[.clos 317 [.hp 2 0 []]], rfl, rfl, .inl ⟨⟨rfl, trivial⟩, ⟨rfl, rfl, rfl, trivial⟩, rfl, rfl⟩⟩
theorem linkOf_d (ps : List Per) (us : List Uni) (s : Pr) (h1 : eqI s.a 1 = false) (h2 : eqI s.a 2 = false) (h3 : eqI s.a 3 = false) (h4 : eqI s.a 4 = false) (h5 : eqI s.a 5 = false) (h6 : eqI s.a 6 = false) (h7 : eqI s.a 7 = true) : HSpec env.P 277 [famLV ps us, s.lv] [] (.clos 318 [.hp 0 0 []]) [.box (famLV ps us), .box s.lv, .box (.clos 314 [.hp 0 0 []])] := by
  refine HSpec_of_code (E := env.x [] 0) env_ok.x (fn := Try.f277) Try.func277 rfl Try.call277 _ _ _ _ ?_
  ((repeat ((conv => whnf); first | refine brT ?_ | refine brF ?_)); conv => whnf)
  rw [h1]
  ((repeat ((conv => whnf); first | refine brT ?_ | refine brF ?_)); conv => whnf)
  rw [h2]
  ((repeat ((conv => whnf); first | refine brT ?_ | refine brF ?_)); conv => whnf)
  rw [h3]
  ((repeat ((conv => whnf); first | refine brT ?_ | refine brF ?_)); conv => whnf)
  rw [h4]
  ((repeat ((conv => whnf); first | refine brT ?_ | refine brF ?_)); conv => whnf)
  rw [h5]
  ((repeat ((conv => whnf); first | refine brT ?_ | refine brF ?_)); conv => whnf)
  rw [h6]
  ((repeat ((conv => whnf); first | refine brT ?_ | refine brF ?_)); conv => whnf)
  rw [h7]
  ((repeat ((conv => whnf); first | refine brT ?_ | refine brF ?_)); conv => whnf)
  exact ⟨[.clos 318 [.hp 0 0 []]], rfl, rfl, .inl ⟨⟨rfl, trivial⟩, ⟨rfl, rfl, rfl, trivial⟩, rfl, rfl⟩⟩
theorem linkOf_e (ps : List Per) (us : List Uni) (s : Pr) (h1 : eqI s.a 1 = false) (h2 : eqI s.a 2 = false) (h3 : eqI s.a 3 = false) (h4 : eqI s.a 4 = false) (h5 : eqI s.a 5 = false) (h6 : eqI s.a 6 = false) (h7 : eqI s.a 7 = false) : HSpec env.P 277 [famLV ps us, s.lv] [] (.clos 319 [.hp 0 0 []]) [.box (famLV ps us), .box s.lv, .box (.clos 314 [.hp 0 0 []])] := by
  refine HSpec_of_code (E := env.x [] 0) env_ok.x (fn := Try.f277) Try.func277 rfl Try.call277 _ _ _ _ ?_
  ((repeat ((conv => whnf); first | refine brT ?_ | refine brF ?_)); conv => whnf)
  rw [h1]
  ((repeat ((conv => whnf); first | refine brT ?_ | refine brF ?_)); conv => whnf)
  rw [h2]
  ((repeat ((conv => whnf); first | refine brT ?_ | refine brF ?_)); conv => whnf)
  rw [h3]
  ((repeat ((conv => whnf); first | refine brT ?_ | refine brF ?_)); conv => whnf)
  rw [h4]
  ((repeat ((conv => whnf); first | refine brT ?_ | refine brF ?_)); conv => whnf)
  rw [h5]
  ((repeat ((conv => whnf); first | refine brT ?_ | refine brF ?_)); conv => whnf)
  rw [h6]
  ((repeat ((conv => whnf); first | refine brT ?_ | refine brF ?_)); conv => whnf)
  rw [h7]
  ((repeat ((conv => whnf); first | refine brT ?_ | refine brF ?_)); conv => whnf)
  exact ⟨[.clos 319 [.hp 0 0 []]], rfl, rfl, .inl ⟨⟨rfl, trivial⟩, ⟨rfl, rfl, rfl, trivial⟩, rfl, rfl⟩⟩
end Go.Proofs.Ytdhmnojnkgmmnaa

namespace Go.Proofs.Ytdhmnojnkgmmnaa
open Go.Lg
set_option maxHeartbeats 6400000
set_option maxRecDepth 10000
set_option linter.unusedVariables false
set_option linter.unusedSimpArgs false

theorem reachOf_a (ps : List Per) (us : List Uni) (s : Pr) (hN : ps.length ≤ 40) (hk : (eqI s.a 1 || eqI s.a 2) = true) (V : Nat → Nat → Bool) (hV : ∀ (a b : Nat) (ha : a < ps.length) (hb : b < ps.length), V a b = (eqI ps[b].sex (sxOf s.a) && chB ps[a] b)) :
    HSpec env.P 235 [famLV ps us, s.lv] [] (.hs 0 ps.length) [.arr 121 1 ((setsP ps.length (doneP ps.length V ps.length 0)).map uLV)] := by
  refine HSpec_of_code (E := env.x [277, 124] 0) env_ok.x (fn := Try.f235) Try.func235 rfl Try.call235 _ _ _ _ ?_
  ((repeat ((conv => whnf); first | refine brT ?_ | refine brF ?_)); conv => whnf)
  refine ⟨[], _, _, _, _, linkOf_a ps us s hk, rfl, rfl, rfl, trivial, ?_⟩
  ((repeat ((conv => whnf); first | refine brT ?_ | refine brF ?_)); conv => whnf)
  intro hm
  have hm' : ps.length ≤ Go.maxLen := by simpa using hm
  rw [show (List.map Per.lv ps).length = ps.length by simp]
  ((repeat ((conv => whnf); first | refine brT ?_ | refine brF ?_)); conv => whnf)
  refine ⟨ps.length, rfl, rfl, by show 8 * ps.length ≤ _; omega, by unfold Go.maxLen; omega, rfl, by decide, ?_⟩
  have ez : List.replicate ps.length (LV.int .u64 0) = (setsP ps.length (doneP ps.length V 0 0)).map uLV := by rw [doneP_zero, ← setsP_zero]; simp [uLV]
  ((repeat ((conv => whnf); first | refine brT ?_ | refine brF ?_)); conv => whnf)
  rw [ez]
  intro _
  rw [show (List.map Per.lv ps).length = ps.length by simp]
  ((repeat ((conv => whnf); first | refine brT ?_ | refine brF ?_)); conv => whnf)
  refine loop_rule (α := Nat) (fun k => [(20, .int .i64 (k : Int))])
    (fun k => [.box (famLV ps us), .box s.lv, .box (famLV ps us), .box s.lv, .box (.clos 314 [.hp 2 0 []]), .arr 121 1 ((setsP ps.length (doneP ps.length V k 0)).map uLV)]) (fun k => ps.length - k) (fun k => k ≤ ps.length) 0 (Nat.zero_le _) ?_ ?_
  · refine ⟨?_, ⟨rfl, rfl, rfl, rfl, rfl, rfl, trivial⟩, rfl, rfl⟩
    ((repeat ((conv => whnf); refine ⟨rfl, ?_⟩)); trivial)
  intro k hk
  ((repeat ((conv => whnf); first | refine brT ?_ | refine brF ?_)); conv => whnf)
  (refine ⟨fun g1 => ?_, fun g1 => ?_⟩ <;> rw [g1])
  · have hlt : k < ps.length := by rw [ltI_t] at g1; omega
    have e1 := step_i hlt hm'
    ((repeat ((conv => whnf); first | refine brT ?_ | refine brF ?_)); conv => whnf)
    intro _
    rw [show (List.map Per.lv ps).length = ps.length by simp]
    ((repeat ((conv => whnf); first | refine brT ?_ | refine brF ?_)); conv => whnf)
    refine loop_rule (α := Nat) (fun i => [(26, .int .i64 (i : Int))])
      (fun i => [.box (famLV ps us), .box s.lv, .box (famLV ps us), .box s.lv, .box (.clos 314 [.hp 2 0 []]), .arr 121 1 ((setsP ps.length (doneP ps.length V k i)).map uLV)]) (fun i => ps.length - i) (fun i => i ≤ ps.length) 0 (Nat.zero_le _) ?_ ?_
    · refine ⟨?_, ⟨rfl, rfl, rfl, rfl, rfl, rfl, trivial⟩, rfl, rfl⟩
      ((repeat ((conv => whnf); refine ⟨rfl, ?_⟩)); trivial)
    intro i hi
    generalize hKK : kk _ = KK
    ((repeat ((conv => whnf); first | refine brT ?_ | refine brF ?_)); conv => whnf)
    (refine ⟨fun g2 => ?_, fun g2 => ?_⟩ <;> rw [g2])
    · have hil : i < ps.length := by rw [ltI_t] at g2; omega
      have e2 := step_i hil hm'
      have hv := hV k i hlt hil
      ((repeat ((conv => whnf); first | refine brT ?_ | refine brF ?_)); conv => whnf)
      refine ⟨i, ps[i].lv, rfl, by simp [hil], rfl, ?_⟩
      ((repeat ((conv => whnf); first | refine brT ?_ | refine brF ?_)); conv => whnf)
      refine ⟨true, by kernel_rfl, ?_⟩
      ((repeat ((conv => whnf); first | refine brT ?_ | refine brF ?_)); conv => whnf)
      refine ⟨_, sexOfStep_spec s, ?_⟩
      ((repeat ((conv => whnf); first | refine brT ?_ | refine brF ?_)); conv => whnf)
      (refine ⟨fun q => ?_, fun q => ?_⟩ <;> rw [q])
      · ((repeat ((conv => whnf); first | refine brT ?_ | refine brF ?_)); conv => whnf)
        refine ⟨_, link1_spec ps us k i hlt, ?_⟩
        ((repeat ((conv => whnf); first | refine brT ?_ | refine brF ?_)); conv => whnf)
        (refine ⟨fun q2 => ?_, fun q2 => ?_⟩ <;> rw [q2])
        · have hvt : V k i = true := by rw [hv, q, q2]; rfl
          have ep := doneP_put (V := V) (k := k) hil
          rw [hvt] at ep
          ((repeat ((conv => whnf); first | refine brT ?_ | refine brF ?_)); conv => whnf)
          refine ⟨by simp [setsP_len], rfl, k, rfl, by simpa [setsP_len] using hlt, ?_⟩
          ((repeat ((conv => whnf); first | refine brT ?_ | refine brF ?_)); conv => whnf)
          refine ⟨[5], _, _, _, _, add_elem ps.length (doneP ps.length V k i) k i hlt hil hN ps.length (by simp [setsP_len]), rfl, ?_⟩
          ((repeat ((conv => whnf); first | refine brT ?_ | refine brF ?_)); conv => whnf)
          refine ⟨rfl, rfl, trivial, ?_⟩
          ((repeat ((conv => whnf); first | refine brT ?_ | refine brF ?_)); conv => whnf)
          refine round_end (i + 1) hil (by omega) ⟨?_, ⟨rfl, rfl, rfl, rfl, rfl, congrArg (fun P => Blk.arr 121 1 ((setsP ps.length P).map uLV)) ep, trivial⟩, rfl, rfl⟩
          ((repeat ((conv => whnf); first | refine ⟨e2, ?_⟩ | refine ⟨rfl, ?_⟩)); trivial)
        · have hvf : V k i = false := by rw [hv, q, q2]; rfl
          ((repeat ((conv => whnf); first | refine brT ?_ | refine brF ?_)); conv => whnf)
          refine round_end (i + 1) hil (by omega) ⟨?_, ⟨rfl, rfl, rfl, rfl, rfl, congrArg (fun P => Blk.arr 121 1 ((setsP ps.length P).map uLV)) (doneP_skip hil hvf), trivial⟩, rfl, rfl⟩
          ((repeat ((conv => whnf); first | refine ⟨e2, ?_⟩ | refine ⟨rfl, ?_⟩)); trivial)
      · have hvf : V k i = false := by rw [hv, q]; rfl
        ((repeat ((conv => whnf); first | refine brT ?_ | refine brF ?_)); conv => whnf)
        refine round_end (i + 1) hil (by omega) ⟨?_, ⟨rfl, rfl, rfl, rfl, rfl, congrArg (fun P => Blk.arr 121 1 ((setsP ps.length P).map uLV)) (doneP_skip hil hvf), trivial⟩, rfl, rfl⟩
        ((repeat ((conv => whnf); first | refine ⟨e2, ?_⟩ | refine ⟨rfl, ?_⟩)); trivial)
    · have hil : i = ps.length := by rw [ltI_f] at g2; omega
      subst hil
      subst hKK
      ((repeat ((conv => whnf); first | refine brT ?_ | refine brF ?_)); conv => whnf)
      refine round_end (k + 1) hlt (by omega) ⟨?_, ⟨rfl, rfl, rfl, rfl, rfl, congrArg (fun P => Blk.arr 121 1 ((setsP ps.length P).map uLV)) (doneP_row ps.length V k), trivial⟩, rfl, rfl⟩
      ((repeat ((conv => whnf); first | refine ⟨e1, ?_⟩ | refine ⟨rfl, ?_⟩)); trivial)
  · have h3 : k = ps.length := by rw [ltI_f] at g1; omega
    subst h3
    ((repeat ((conv => whnf); first | refine brT ?_ | refine brF ?_)); conv => whnf)
    exact ⟨[.hs 0 ps.length], rfl, rfl, .inr ⟨[.old 5], ⟨rfl, rfl, trivial⟩, ⟨rfl, rfl, trivial⟩, rfl⟩⟩
end Go.Proofs.Ytdhmnojnkgmmnaa

namespace Go.Proofs.Ytdhmnojnkgmmnaa
open Go.Lg
set_option maxHeartbeats 6400000
set_option maxRecDepth 10000
set_option linter.unusedVariables false
set_option linter.unusedSimpArgs false

theorem reachOf_b (ps : List Per) (us : List Uni) (s : Pr) (hN : ps.length ≤ 40) (h1 : eqI s.a 1 = false) (h2 : eqI s.a 2 = false) (hk : (eqI s.a 3 || eqI s.a 4) = true) (V : Nat → Nat → Bool) (hV : ∀ (a b : Nat) (ha : a < ps.length) (hb : b < ps.length), V a b = (eqI ps[b].sex (sxOf s.a) && (sibB ps[a] ps[b] a b && ageX ps s.b a b))) :
    HSpec env.P 235 [famLV ps us, s.lv] [] (.hs 0 ps.length) [.arr 121 1 ((setsP ps.length (doneP ps.length V ps.length 0)).map uLV)] := by
  refine HSpec_of_code (E := env.x [277, 124] 0) env_ok.x (fn := Try.f235) Try.func235 rfl Try.call235 _ _ _ _ ?_
  ((repeat ((conv => whnf); first | refine brT ?_ | refine brF ?_)); conv => whnf)
  refine ⟨[], _, _, _, _, linkOf_b ps us s h1 h2 hk, rfl, rfl, rfl, trivial, ?_⟩
  ((repeat ((conv => whnf); first | refine brT ?_ | refine brF ?_)); conv => whnf)
  intro hm
  have hm' : ps.length ≤ Go.maxLen := by simpa using hm
  rw [show (List.map Per.lv ps).length = ps.length by simp]
  ((repeat ((conv => whnf); first | refine brT ?_ | refine brF ?_)); conv => whnf)
  refine ⟨ps.length, rfl, rfl, by show 8 * ps.length ≤ _; omega, by unfold Go.maxLen; omega, rfl, by decide, ?_⟩
  have ez : List.replicate ps.length (LV.int .u64 0) = (setsP ps.length (doneP ps.length V 0 0)).map uLV := by rw [doneP_zero, ← setsP_zero]; simp [uLV]
  ((repeat ((conv => whnf); first | refine brT ?_ | refine brF ?_)); conv => whnf)
  rw [ez]
  intro _
  rw [show (List.map Per.lv ps).length = ps.length by simp]
  ((repeat ((conv => whnf); first | refine brT ?_ | refine brF ?_)); conv => whnf)
  refine loop_rule (α := Nat) (fun k => [(20, .int .i64 (k : Int))])
    (fun k => [.box (famLV ps us), .box s.lv, .box (famLV ps us), .box s.lv, .box (.clos 314 [.hp 2 0 []]), .arr 121 1 ((setsP ps.length (doneP ps.length V k 0)).map uLV)]) (fun k => ps.length - k) (fun k => k ≤ ps.length) 0 (Nat.zero_le _) ?_ ?_
  · refine ⟨?_, ⟨rfl, rfl, rfl, rfl, rfl, rfl, trivial⟩, rfl, rfl⟩
    ((repeat ((conv => whnf); refine ⟨rfl, ?_⟩)); trivial)
  intro k hk
  ((repeat ((conv => whnf); first | refine brT ?_ | refine brF ?_)); conv => whnf)
  (refine ⟨fun g1 => ?_, fun g1 => ?_⟩ <;> rw [g1])
  · have hlt : k < ps.length := by rw [ltI_t] at g1; omega
    have e1 := step_i hlt hm'
    ((repeat ((conv => whnf); first | refine brT ?_ | refine brF ?_)); conv => whnf)
    intro _
    rw [show (List.map Per.lv ps).length = ps.length by simp]
    ((repeat ((conv => whnf); first | refine brT ?_ | refine brF ?_)); conv => whnf)
    refine loop_rule (α := Nat) (fun i => [(26, .int .i64 (i : Int))])
      (fun i => [.box (famLV ps us), .box s.lv, .box (famLV ps us), .box s.lv, .box (.clos 314 [.hp 2 0 []]), .arr 121 1 ((setsP ps.length (doneP ps.length V k i)).map uLV)]) (fun i => ps.length - i) (fun i => i ≤ ps.length) 0 (Nat.zero_le _) ?_ ?_
    · refine ⟨?_, ⟨rfl, rfl, rfl, rfl, rfl, rfl, trivial⟩, rfl, rfl⟩
      ((repeat ((conv => whnf); refine ⟨rfl, ?_⟩)); trivial)
    intro i hi
    generalize hKK : kk _ = KK
    ((repeat ((conv => whnf); first | refine brT ?_ | refine brF ?_)); conv => whnf)
    (refine ⟨fun g2 => ?_, fun g2 => ?_⟩ <;> rw [g2])
    · have hil : i < ps.length := by rw [ltI_t] at g2; omega
      have e2 := step_i hil hm'
      have hv := hV k i hlt hil
      ((repeat ((conv => whnf); first | refine brT ?_ | refine brF ?_)); conv => whnf)
      refine ⟨i, ps[i].lv, rfl, by simp [hil], rfl, ?_⟩
      ((repeat ((conv => whnf); first | refine brT ?_ | refine brF ?_)); conv => whnf)
      refine ⟨true, by kernel_rfl, ?_⟩
      ((repeat ((conv => whnf); first | refine brT ?_ | refine brF ?_)); conv => whnf)
      refine ⟨_, sexOfStep_spec s, ?_⟩
      ((repeat ((conv => whnf); first | refine brT ?_ | refine brF ?_)); conv => whnf)
      (refine ⟨fun q => ?_, fun q => ?_⟩ <;> rw [q])
      · ((repeat ((conv => whnf); first | refine brT ?_ | refine brF ?_)); conv => whnf)
        refine ⟨_, link2_spec ps us s k i hlt hil, ?_⟩
        ((repeat ((conv => whnf); first | refine brT ?_ | refine brF ?_)); conv => whnf)
        (refine ⟨fun q2 => ?_, fun q2 => ?_⟩ <;> rw [q2])
        · have hvt : V k i = true := by rw [hv, q, q2]; rfl
          have ep := doneP_put (V := V) (k := k) hil
          rw [hvt] at ep
          ((repeat ((conv => whnf); first | refine brT ?_ | refine brF ?_)); conv => whnf)
          refine ⟨by simp [setsP_len], rfl, k, rfl, by simpa [setsP_len] using hlt, ?_⟩
          ((repeat ((conv => whnf); first | refine brT ?_ | refine brF ?_)); conv => whnf)
          refine ⟨[5], _, _, _, _, add_elem ps.length (doneP ps.length V k i) k i hlt hil hN ps.length (by simp [setsP_len]), rfl, ?_⟩
          ((repeat ((conv => whnf); first | refine brT ?_ | refine brF ?_)); conv => whnf)
          refine ⟨rfl, rfl, trivial, ?_⟩
          ((repeat ((conv => whnf); first | refine brT ?_ | refine brF ?_)); conv => whnf)
          refine round_end (i + 1) hil (by omega) ⟨?_, ⟨rfl, rfl, rfl, rfl, rfl, congrArg (fun P => Blk.arr 121 1 ((setsP ps.length P).map uLV)) ep, trivial⟩, rfl, rfl⟩
          ((repeat ((conv => whnf); first | refine ⟨e2, ?_⟩ | refine ⟨rfl, ?_⟩)); trivial)
        · have hvf : V k i = false := by rw [hv, q, q2]; rfl
          ((repeat ((conv => whnf); first | refine brT ?_ | refine brF ?_)); conv => whnf)
          refine round_end (i + 1) hil (by omega) ⟨?_, ⟨rfl, rfl, rfl, rfl, rfl, congrArg (fun P => Blk.arr 121 1 ((setsP ps.length P).map uLV)) (doneP_skip hil hvf), trivial⟩, rfl, rfl⟩
          ((repeat ((conv => whnf); first | refine ⟨e2, ?_⟩ | refine ⟨rfl, ?_⟩)); trivial)
      · have hvf : V k i = false := by rw [hv, q]; rfl
        ((repeat ((conv => whnf); first | refine brT ?_ | refine brF ?_)); conv => whnf)
        refine round_end (i + 1) hil (by omega) ⟨?_, ⟨rfl, rfl, rfl, rfl, rfl, congrArg (fun P => Blk.arr 121 1 ((setsP ps.length P).map uLV)) (doneP_skip hil hvf), trivial⟩, rfl, rfl⟩
        ((repeat ((conv => whnf); first | refine ⟨e2, ?_⟩ | refine ⟨rfl, ?_⟩)); trivial)
    · have hil : i = ps.length := by rw [ltI_f] at g2; omega
      subst hil
      subst hKK
      ((repeat ((conv => whnf); first | refine brT ?_ | refine brF ?_)); conv => whnf)
      refine round_end (k + 1) hlt (by omega) ⟨?_, ⟨rfl, rfl, rfl, rfl, rfl, congrArg (fun P => Blk.arr 121 1 ((setsP ps.length P).map uLV)) (doneP_row ps.length V k), trivial⟩, rfl, rfl⟩
      ((repeat ((conv => whnf); first | refine ⟨e1, ?_⟩ | refine ⟨rfl, ?_⟩)); trivial)
  · have h3 : k = ps.length := by rw [ltI_f] at g1; omega
    subst h3
    ((repeat ((conv => whnf); first | refine brT ?_ | refine brF ?_)); conv => whnf)
    exact ⟨[.hs 0 ps.length], rfl, rfl, .inr ⟨[.old 5], ⟨rfl, rfl, trivial⟩, ⟨rfl, rfl, trivial⟩, rfl⟩⟩
end Go.Proofs.Ytdhmnojnkgmmnaa

namespace Go.Proofs.Ytdhmnojnkgmmnaa
open Go.Lg
set_option maxHeartbeats 6400000
set_option maxRecDepth 10000
set_option linter.unusedVariables false
set_option linter.unusedSimpArgs false

theorem reachOf_c (ps : List Per) (us : List Uni) (s : Pr) (hN : ps.length ≤ 40) (h1 : eqI s.a 1 = false) (h2 : eqI s.a 2 = false) (h3 : eqI s.a 3 = false) (h4 : eqI s.a 4 = false) (hk : (eqI s.a 5 || eqI s.a 6) = true) (V : Nat → Nat → Bool) (hV : ∀ (a b : Nat) (ha : a < ps.length) (hb : b < ps.length), V a b = (eqI ps[b].sex (sxOf s.a) && chB ps[b] a)) :
    HSpec env.P 235 [famLV ps us, s.lv] [] (.hs 0 ps.length) [.arr 121 1 ((setsP ps.length (doneP ps.length V ps.length 0)).map uLV)] := by
  refine HSpec_of_code (E := env.x [277, 124] 0) env_ok.x (fn := Try.f235) Try.func235 rfl Try.call235 _ _ _ _ ?_
  ((repeat ((conv => whnf); first | refine brT ?_ | refine brF ?_)); conv => whnf)
  refine ⟨[], _, _, _, _, linkOf_c ps us s h1 h2 h3 h4 hk, rfl, rfl, rfl, trivial, ?_⟩
  ((repeat ((conv => whnf); first | refine brT ?_ | refine brF ?_)); conv => whnf)
  intro hm
  have hm' : ps.length ≤ Go.maxLen := by simpa using hm
  rw [show (List.map Per.lv ps).length = ps.length by simp]
  ((repeat ((conv => whnf); first | refine brT ?_ | refine brF ?_)); conv => whnf)
  refine ⟨ps.length, rfl, rfl, by show 8 * ps.length ≤ _; omega, by unfold Go.maxLen; omega, rfl, by decide, ?_⟩
  have ez : List.replicate ps.length (LV.int .u64 0) = (setsP ps.length (doneP ps.length V 0 0)).map uLV := by rw [doneP_zero, ← setsP_zero]; simp [uLV]
  ((repeat ((conv => whnf); first | refine brT ?_ | refine brF ?_)); conv => whnf)
  rw [ez]
  intro _
  rw [show (List.map Per.lv ps).length = ps.length by simp]
  ((repeat ((conv => whnf); first | refine brT ?_ | refine brF ?_)); conv => whnf)
  refine loop_rule (α := Nat) (fun k => [(20, .int .i64 (k : Int))])
    (fun k => [.box (famLV ps us), .box s.lv, .box (famLV ps us), .box s.lv, .box (.clos 314 [.hp 2 0 []]), .arr 121 1 ((setsP ps.length (doneP ps.length V k 0)).map uLV)]) (fun k => ps.length - k) (fun k => k ≤ ps.length) 0 (Nat.zero_le _) ?_ ?_
  · refine ⟨?_, ⟨rfl, rfl, rfl, rfl, rfl, rfl, trivial⟩, rfl, rfl⟩
    ((repeat ((conv => whnf); refine ⟨rfl, ?_⟩)); trivial)
  intro k hk
  ((repeat ((conv => whnf); first | refine brT ?_ | refine brF ?_)); conv => whnf)
  (refine ⟨fun g1 => ?_, fun g1 => ?_⟩ <;> rw [g1])
  · have hlt : k < ps.length := by rw [ltI_t] at g1; omega
    have e1 := step_i hlt hm'
    ((repeat ((conv => whnf); first | refine brT ?_ | refine brF ?_)); conv => whnf)
    intro _
    rw [show (List.map Per.lv ps).length = ps.length by simp]
    ((repeat ((conv => whnf); first | refine brT ?_ | refine brF ?_)); conv => whnf)
    refine loop_rule (α := Nat) (fun i => [(26, .int .i64 (i : Int))])
      (fun i => [.box (famLV ps us), .box s.lv, .box (famLV ps us), .box s.lv, .box (.clos 314 [.hp 2 0 []]), .arr 121 1 ((setsP ps.length (doneP ps.length V k i)).map uLV)]) (fun i => ps.length - i) (fun i => i ≤ ps.length) 0 (Nat.zero_le _) ?_ ?_
    · refine ⟨?_, ⟨rfl, rfl, rfl, rfl, rfl, rfl, trivial⟩, rfl, rfl⟩
      ((repeat ((conv => whnf); refine ⟨rfl, ?_⟩)); trivial)
    intro i hi
    generalize hKK : kk _ = KK
    ((repeat ((conv => whnf); first | refine brT ?_ | refine brF ?_)); conv => whnf)
    (refine ⟨fun g2 => ?_, fun g2 => ?_⟩ <;> rw [g2])
    · have hil : i < ps.length := by rw [ltI_t] at g2; omega
      have e2 := step_i hil hm'
      have hv := hV k i hlt hil
      ((repeat ((conv => whnf); first | refine brT ?_ | refine brF ?_)); conv => whnf)
      refine ⟨i, ps[i].lv, rfl, by simp [hil], rfl, ?_⟩
      ((repeat ((conv => whnf); first | refine brT ?_ | refine brF ?_)); conv => whnf)
      refine ⟨true, by kernel_rfl, ?_⟩
      ((repeat ((conv => whnf); first | refine brT ?_ | refine brF ?_)); conv => whnf)
      refine ⟨_, sexOfStep_spec s, ?_⟩
      ((repeat ((conv => whnf); first | refine brT ?_ | refine brF ?_)); conv => whnf)
      (refine ⟨fun q => ?_, fun q => ?_⟩ <;> rw [q])
      · ((repeat ((conv => whnf); first | refine brT ?_ | refine brF ?_)); conv => whnf)
        refine ⟨_, link3_spec ps us k i hil, ?_⟩
        ((repeat ((conv => whnf); first | refine brT ?_ | refine brF ?_)); conv => whnf)
        (refine ⟨fun q2 => ?_, fun q2 => ?_⟩ <;> rw [q2])
        · have hvt : V k i = true := by rw [hv, q, q2]; rfl
          have ep := doneP_put (V := V) (k := k) hil
          rw [hvt] at ep
          ((repeat ((conv => whnf); first | refine brT ?_ | refine brF ?_)); conv => whnf)
          refine ⟨by simp [setsP_len], rfl, k, rfl, by simpa [setsP_len] using hlt, ?_⟩
          ((repeat ((conv => whnf); first | refine brT ?_ | refine brF ?_)); conv => whnf)
          refine ⟨[5], _, _, _, _, add_elem ps.length (doneP ps.length V k i) k i hlt hil hN ps.length (by simp [setsP_len]), rfl, ?_⟩
          ((repeat ((conv => whnf); first | refine brT ?_ | refine brF ?_)); conv => whnf)
          refine ⟨rfl, rfl, trivial, ?_⟩
          ((repeat ((conv => whnf); first | refine brT ?_ | refine brF ?_)); conv => whnf)
          refine round_end (i + 1) hil (by omega) ⟨?_, ⟨rfl, rfl, rfl, rfl, rfl, congrArg (fun P => Blk.arr 121 1 ((setsP ps.length P).map uLV)) ep, trivial⟩, rfl, rfl⟩
          ((repeat ((conv => whnf); first | refine ⟨e2, ?_⟩ | refine ⟨rfl, ?_⟩)); trivial)
        · have hvf : V k i = false := by rw [hv, q, q2]; rfl
          ((repeat ((conv => whnf); first | refine brT ?_ | refine brF ?_)); conv => whnf)
          refine round_end (i + 1) hil (by omega) ⟨?_, ⟨rfl, rfl, rfl, rfl, rfl, congrArg (fun P => Blk.arr 121 1 ((setsP ps.length P).map uLV)) (doneP_skip hil hvf), trivial⟩, rfl, rfl⟩
          ((repeat ((conv => whnf); first | refine ⟨e2, ?_⟩ | refine ⟨rfl, ?_⟩)); trivial)
      · have hvf : V k i = false := by rw [hv, q]; rfl
        ((repeat ((conv => whnf); first | refine brT ?_ | refine brF ?_)); conv => whnf)
        refine round_end (i + 1) hil (by omega) ⟨?_, ⟨rfl, rfl, rfl, rfl, rfl, congrArg (fun P => Blk.arr 121 1 ((setsP ps.length P).map uLV)) (doneP_skip hil hvf), trivial⟩, rfl, rfl⟩
        ((repeat ((conv => whnf); first | refine ⟨e2, ?_⟩ | refine ⟨rfl, ?_⟩)); trivial)
    · have hil : i = ps.length := by rw [ltI_f] at g2; omega
      subst hil
      subst hKK
      ((repeat ((conv => whnf); first | refine brT ?_ | refine brF ?_)); conv => whnf)
      refine round_end (k + 1) hlt (by omega) ⟨?_, ⟨rfl, rfl, rfl, rfl, rfl, congrArg (fun P => Blk.arr 121 1 ((setsP ps.length P).map uLV)) (doneP_row ps.length V k), trivial⟩, rfl, rfl⟩
      ((repeat ((conv => whnf); first | refine ⟨e1, ?_⟩ | refine ⟨rfl, ?_⟩)); trivial)
  · have h3 : k = ps.length := by rw [ltI_f] at g1; omega
    subst h3
    ((repeat ((conv => whnf); first | refine brT ?_ | refine brF ?_)); conv => whnf)
    exact ⟨[.hs 0 ps.length], rfl, rfl, .inr ⟨[.old 5], ⟨rfl, rfl, trivial⟩, ⟨rfl, rfl, trivial⟩, rfl⟩⟩
end Go.Proofs.Ytdhmnojnkgmmnaa

namespace Go.Proofs.Ytdhmnojnkgmmnaa
open Go.Lg
set_option maxHeartbeats 6400000
set_option maxRecDepth 10000
set_option linter.unusedVariables false
set_option linter.unusedSimpArgs false

theorem reachOf_d (ps : List Per) (us : List Uni) (s : Pr) (hN : ps.length ≤ 40) (h1 : eqI s.a 1 = false) (h2 : eqI s.a 2 = false) (h3 : eqI s.a 3 = false) (h4 : eqI s.a 4 = false) (h5 : eqI s.a 5 = false) (h6 : eqI s.a 6 = false) (h7 : eqI s.a 7 = true) (V : Nat → Nat → Bool) (hV : ∀ (a b : Nat) (ha : a < ps.length) (hb : b < ps.length), V a b = (eqI ps[b].sex (sxOf s.a) && us.any (unitedOf b a))) :
    HSpec env.P 235 [famLV ps us, s.lv] [] (.hs 0 ps.length) [.arr 121 1 ((setsP ps.length (doneP ps.length V ps.length 0)).map uLV)] := by
  refine HSpec_of_code (E := env.x [277, 124] 0) env_ok.x (fn := Try.f235) Try.func235 rfl Try.call235 _ _ _ _ ?_
  ((repeat ((conv => whnf); first | refine brT ?_ | refine brF ?_)); conv => whnf)
  refine ⟨[], _, _, _, _, linkOf_d ps us s h1 h2 h3 h4 h5 h6 h7, rfl, rfl, rfl, trivial, ?_⟩
  ((repeat ((conv => whnf); first | refine brT ?_ | refine brF ?_)); conv => whnf)
  intro hm
  have hm' : ps.length ≤ Go.maxLen := by simpa using hm
  rw [show (List.map Per.lv ps).length = ps.length by simp]
  ((repeat ((conv => whnf); first | refine brT ?_ | refine brF ?_)); conv => whnf)
  refine ⟨ps.length, rfl, rfl, by show 8 * ps.length ≤ _; omega, by unfold Go.maxLen; omega, rfl, by decide, ?_⟩
  have ez : List.replicate ps.length (LV.int .u64 0) = (setsP ps.length (doneP ps.length V 0 0)).map uLV := by rw [doneP_zero, ← setsP_zero]; simp [uLV]
  ((repeat ((conv => whnf); first | refine brT ?_ | refine brF ?_)); conv => whnf)
  rw [ez]
  intro _
  rw [show (List.map Per.lv ps).length = ps.length by simp]
  ((repeat ((conv => whnf); first | refine brT ?_ | refine brF ?_)); conv => whnf)
  refine loop_rule (α := Nat) (fun k => [(20, .int .i64 (k : Int))])
    (fun k => [.box (famLV ps us), .box s.lv, .box (famLV ps us), .box s.lv, .box (.clos 314 [.hp 2 0 []]), .arr 121 1 ((setsP ps.length (doneP ps.length V k 0)).map uLV)]) (fun k => ps.length - k) (fun k => k ≤ ps.length) 0 (Nat.zero_le _) ?_ ?_
  · refine ⟨?_, ⟨rfl, rfl, rfl, rfl, rfl, rfl, trivial⟩, rfl, rfl⟩
    ((repeat ((conv => whnf); refine ⟨rfl, ?_⟩)); trivial)
  intro k hk
  ((repeat ((conv => whnf); first | refine brT ?_ | refine brF ?_)); conv => whnf)
  (refine ⟨fun g1 => ?_, fun g1 => ?_⟩ <;> rw [g1])
  · have hlt : k < ps.length := by rw [ltI_t] at g1; omega
    have e1 := step_i hlt hm'
    ((repeat ((conv => whnf); first | refine brT ?_ | refine brF ?_)); conv => whnf)
    intro _
    rw [show (List.map Per.lv ps).length = ps.length by simp]
    ((repeat ((conv => whnf); first | refine brT ?_ | refine brF ?_)); conv => whnf)
    refine loop_rule (α := Nat) (fun i => [(26, .int .i64 (i : Int))])
      (fun i => [.box (famLV ps us), .box s.lv, .box (famLV ps us), .box s.lv, .box (.clos 314 [.hp 2 0 []]), .arr 121 1 ((setsP ps.length (doneP ps.length V k i)).map uLV)]) (fun i => ps.length - i) (fun i => i ≤ ps.length) 0 (Nat.zero_le _) ?_ ?_
    · refine ⟨?_, ⟨rfl, rfl, rfl, rfl, rfl, rfl, trivial⟩, rfl, rfl⟩
      ((repeat ((conv => whnf); refine ⟨rfl, ?_⟩)); trivial)
    intro i hi
    generalize hKK : kk _ = KK
    ((repeat ((conv => whnf); first | refine brT ?_ | refine brF ?_)); conv => whnf)
    (refine ⟨fun g2 => ?_, fun g2 => ?_⟩ <;> rw [g2])
    · have hil : i < ps.length := by rw [ltI_t] at g2; omega
      have e2 := step_i hil hm'
      have hv := hV k i hlt hil
      ((repeat ((conv => whnf); first | refine brT ?_ | refine brF ?_)); conv => whnf)
      refine ⟨i, ps[i].lv, rfl, by simp [hil], rfl, ?_⟩
      ((repeat ((conv => whnf); first | refine brT ?_ | refine brF ?_)); conv => whnf)
      refine ⟨true, by kernel_rfl, ?_⟩
      ((repeat ((conv => whnf); first | refine brT ?_ | refine brF ?_)); conv => whnf)
      refine ⟨_, sexOfStep_spec s, ?_⟩
      ((repeat ((conv => whnf); first | refine brT ?_ | refine brF ?_)); conv => whnf)
      (refine ⟨fun q => ?_, fun q => ?_⟩ <;> rw [q])
      · ((repeat ((conv => whnf); first | refine brT ?_ | refine brF ?_)); conv => whnf)
        refine ⟨_, link4_spec ps us k i, ?_⟩
        ((repeat ((conv => whnf); first | refine brT ?_ | refine brF ?_)); conv => whnf)
        (refine ⟨fun q2 => ?_, fun q2 => ?_⟩ <;> rw [q2])
        · have hvt : V k i = true := by rw [hv, q, q2]; rfl
          have ep := doneP_put (V := V) (k := k) hil
          rw [hvt] at ep
          ((repeat ((conv => whnf); first | refine brT ?_ | refine brF ?_)); conv => whnf)
          refine ⟨by simp [setsP_len], rfl, k, rfl, by simpa [setsP_len] using hlt, ?_⟩
          ((repeat ((conv => whnf); first | refine brT ?_ | refine brF ?_)); conv => whnf)
          refine ⟨[5], _, _, _, _, add_elem ps.length (doneP ps.length V k i) k i hlt hil hN ps.length (by simp [setsP_len]), rfl, ?_⟩
          ((repeat ((conv => whnf); first | refine brT ?_ | refine brF ?_)); conv => whnf)
          refine ⟨rfl, rfl, trivial, ?_⟩
          ((repeat ((conv => whnf); first | refine brT ?_ | refine brF ?_)); conv => whnf)
          refine round_end (i + 1) hil (by omega) ⟨?_, ⟨rfl, rfl, rfl, rfl, rfl, congrArg (fun P => Blk.arr 121 1 ((setsP ps.length P).map uLV)) ep, trivial⟩, rfl, rfl⟩
          ((repeat ((conv => whnf); first | refine ⟨e2, ?_⟩ | refine ⟨rfl, ?_⟩)); trivial)
        · have hvf : V k i = false := by rw [hv, q, q2]; rfl
          ((repeat ((conv => whnf); first | refine brT ?_ | refine brF ?_)); conv => whnf)
          refine round_end (i + 1) hil (by omega) ⟨?_, ⟨rfl, rfl, rfl, rfl, rfl, congrArg (fun P => Blk.arr 121 1 ((setsP ps.length P).map uLV)) (doneP_skip hil hvf), trivial⟩, rfl, rfl⟩
          ((repeat ((conv => whnf); first | refine ⟨e2, ?_⟩ | refine ⟨rfl, ?_⟩)); trivial)
      · have hvf : V k i = false := by rw [hv, q]; rfl
        ((repeat ((conv => whnf); first | refine brT ?_ | refine brF ?_)); conv => whnf)
        refine round_end (i + 1) hil (by omega) ⟨?_, ⟨rfl, rfl, rfl, rfl, rfl, congrArg (fun P => Blk.arr 121 1 ((setsP ps.length P).map uLV)) (doneP_skip hil hvf), trivial⟩, rfl, rfl⟩
        ((repeat ((conv => whnf); first | refine ⟨e2, ?_⟩ | refine ⟨rfl, ?_⟩)); trivial)
    · have hil : i = ps.length := by rw [ltI_f] at g2; omega
      subst hil
      subst hKK
      ((repeat ((conv => whnf); first | refine brT ?_ | refine brF ?_)); conv => whnf)
      refine round_end (k + 1) hlt (by omega) ⟨?_, ⟨rfl, rfl, rfl, rfl, rfl, congrArg (fun P => Blk.arr 121 1 ((setsP ps.length P).map uLV)) (doneP_row ps.length V k), trivial⟩, rfl, rfl⟩
      ((repeat ((conv => whnf); first | refine ⟨e1, ?_⟩ | refine ⟨rfl, ?_⟩)); trivial)
  · have h3 : k = ps.length := by rw [ltI_f] at g1; omega
    subst h3
    ((repeat ((conv => whnf); first | refine brT ?_ | refine brF ?_)); conv => whnf)
    exact ⟨[.hs 0 ps.length], rfl, rfl, .inr ⟨[.old 5], ⟨rfl, rfl, trivial⟩, ⟨rfl, rfl, trivial⟩, rfl⟩⟩
end Go.Proofs.Ytdhmnojnkgmmnaa

namespace Go.Proofs.Ytdhmnojnkgmmnaa
open Go.Lg
set_option maxHeartbeats 6400000
set_option maxRecDepth 10000
set_option linter.unusedVariables false
set_option linter.unusedSimpArgs false

theorem reachOf_e (ps : List Per) (us : List Uni) (s : Pr) (hN : ps.length ≤ 40) (h1 : eqI s.a 1 = false) (h2 : eqI s.a 2 = false) (h3 : eqI s.a 3 = false) (h4 : eqI s.a 4 = false) (h5 : eqI s.a 5 = false) (h6 : eqI s.a 6 = false) (h7 : eqI s.a 7 = false) (V : Nat → Nat → Bool) (hV : ∀ (a b : Nat) (ha : a < ps.length) (hb : b < ps.length), V a b = (eqI ps[b].sex (sxOf s.a) && us.any (unitedOf a b))) :
    HSpec env.P 235 [famLV ps us, s.lv] [] (.hs 0 ps.length) [.arr 121 1 ((setsP ps.length (doneP ps.length V ps.length 0)).map uLV)] := by
  refine HSpec_of_code (E := env.x [277, 124] 0) env_ok.x (fn := Try.f235) Try.func235 rfl Try.call235 _ _ _ _ ?_
  ((repeat ((conv => whnf); first | refine brT ?_ | refine brF ?_)); conv => whnf)
  refine ⟨[], _, _, _, _, linkOf_e ps us s h1 h2 h3 h4 h5 h6 h7, rfl, rfl, rfl, trivial, ?_⟩
  ((repeat ((conv => whnf); first | refine brT ?_ | refine brF ?_)); conv => whnf)
  intro hm
  have hm' : ps.length ≤ Go.maxLen := by simpa using hm
  rw [show (List.map Per.lv ps).length = ps.length by simp]
  ((repeat ((conv => whnf); first | refine brT ?_ | refine brF ?_)); conv => whnf)
  refine ⟨ps.length, rfl, rfl, by show 8 * ps.length ≤ _; omega, by unfold Go.maxLen; omega, rfl, by decide, ?_⟩
  have ez : List.replicate ps.length (LV.int .u64 0) = (setsP ps.length (doneP ps.length V 0 0)).map uLV := by rw [doneP_zero, ← setsP_zero]; simp [uLV]
  ((repeat ((conv => whnf); first | refine brT ?_ | refine brF ?_)); conv => whnf)
  rw [ez]
  intro _
  rw [show (List.map Per.lv ps).length = ps.length by simp]
  ((repeat ((conv => whnf); first | refine brT ?_ | refine brF ?_)); conv => whnf)
  refine loop_rule (α := Nat) (fun k => [(20, .int .i64 (k : Int))])
    (fun k => [.box (famLV ps us), .box s.lv, .box (famLV ps us), .box s.lv, .box (.clos 314 [.hp 2 0 []]), .arr 121 1 ((setsP ps.length (doneP ps.length V k 0)).map uLV)]) (fun k => ps.length - k) (fun k => k ≤ ps.length) 0 (Nat.zero_le _) ?_ ?_
  · refine ⟨?_, ⟨rfl, rfl, rfl, rfl, rfl, rfl, trivial⟩, rfl, rfl⟩
    ((repeat ((conv => whnf); refine ⟨rfl, ?_⟩)); trivial)
  intro k hk
  ((repeat ((conv => whnf); first | refine brT ?_ | refine brF ?_)); conv => whnf)
  (refine ⟨fun g1 => ?_, fun g1 => ?_⟩ <;> rw [g1])
  · have hlt : k < ps.length := by rw [ltI_t] at g1; omega
    have e1 := step_i hlt hm'
    ((repeat ((conv => whnf); first | refine brT ?_ | refine brF ?_)); conv => whnf)
    intro _
    rw [show (List.map Per.lv ps).length = ps.length by simp]
    ((repeat ((conv => whnf); first | refine brT ?_ | refine brF ?_)); conv => whnf)
    refine loop_rule (α := Nat) (fun i => [(26, .int .i64 (i : Int))])
      (fun i => [.box (famLV ps us), .box s.lv, .box (famLV ps us), .box s.lv, .box (.clos 314 [.hp 2 0 []]), .arr 121 1 ((setsP ps.length (doneP ps.length V k i)).map uLV)]) (fun i => ps.length - i) (fun i => i ≤ ps.length) 0 (Nat.zero_le _) ?_ ?_
    · refine ⟨?_, ⟨rfl, rfl, rfl, rfl, rfl, rfl, trivial⟩, rfl, rfl⟩
      ((repeat ((conv => whnf); refine ⟨rfl, ?_⟩)); trivial)
    intro i hi
    generalize hKK : kk _ = KK
    ((repeat ((conv => whnf); first | refine brT ?_ | refine brF ?_)); conv => whnf)
    (refine ⟨fun g2 => ?_, fun g2 => ?_⟩ <;> rw [g2])
    · have hil : i < ps.length := by rw [ltI_t] at g2; omega
      have e2 := step_i hil hm'
      have hv := hV k i hlt hil
      ((repeat ((conv => whnf); first | refine brT ?_ | refine brF ?_)); conv => whnf)
      refine ⟨i, ps[i].lv, rfl, by simp [hil], rfl, ?_⟩
      ((repeat ((conv => whnf); first | refine brT ?_ | refine brF ?_)); conv => whnf)
      refine ⟨true, by kernel_rfl, ?_⟩
      ((repeat ((conv => whnf); first | refine brT ?_ | refine brF ?_)); conv => whnf)
      refine ⟨_, sexOfStep_spec s, ?_⟩
      ((repeat ((conv => whnf); first | refine brT ?_ | refine brF ?_)); conv => whnf)
      (refine ⟨fun q => ?_, fun q => ?_⟩ <;> rw [q])
      · ((repeat ((conv => whnf); first | refine brT ?_ | refine brF ?_)); conv => whnf)
        refine ⟨_, link5_spec ps us k i, ?_⟩
        ((repeat ((conv => whnf); first | refine brT ?_ | refine brF ?_)); conv => whnf)
        (refine ⟨fun q2 => ?_, fun q2 => ?_⟩ <;> rw [q2])
        · have hvt : V k i = true := by rw [hv, q, q2]; rfl
          have ep := doneP_put (V := V) (k := k) hil
          rw [hvt] at ep
          ((repeat ((conv => whnf); first | refine brT ?_ | refine brF ?_)); conv => whnf)
          refine ⟨by simp [setsP_len], rfl, k, rfl, by simpa [setsP_len] using hlt, ?_⟩
          ((repeat ((conv => whnf); first | refine brT ?_ | refine brF ?_)); conv => whnf)
          refine ⟨[5], _, _, _, _, add_elem ps.length (doneP ps.length V k i) k i hlt hil hN ps.length (by simp [setsP_len]), rfl, ?_⟩
          ((repeat ((conv => whnf); first | refine brT ?_ | refine brF ?_)); conv => whnf)
          refine ⟨rfl, rfl, trivial, ?_⟩
          ((repeat ((conv => whnf); first | refine brT ?_ | refine brF ?_)); conv => whnf)
          refine round_end (i + 1) hil (by omega) ⟨?_, ⟨rfl, rfl, rfl, rfl, rfl, congrArg (fun P => Blk.arr 121 1 ((setsP ps.length P).map uLV)) ep, trivial⟩, rfl, rfl⟩
          ((repeat ((conv => whnf); first | refine ⟨e2, ?_⟩ | refine ⟨rfl, ?_⟩)); trivial)
        · have hvf : V k i = false := by rw [hv, q, q2]; rfl
          ((repeat ((conv => whnf); first | refine brT ?_ | refine brF ?_)); conv => whnf)
          refine round_end (i + 1) hil (by omega) ⟨?_, ⟨rfl, rfl, rfl, rfl, rfl, congrArg (fun P => Blk.arr 121 1 ((setsP ps.length P).map uLV)) (doneP_skip hil hvf), trivial⟩, rfl, rfl⟩
          ((repeat ((conv => whnf); first | refine ⟨e2, ?_⟩ | refine ⟨rfl, ?_⟩)); trivial)
      · have hvf : V k i = false := by rw [hv, q]; rfl
        ((repeat ((conv => whnf); first | refine brT ?_ | refine brF ?_)); conv => whnf)
        refine round_end (i + 1) hil (by omega) ⟨?_, ⟨rfl, rfl, rfl, rfl, rfl, congrArg (fun P => Blk.arr 121 1 ((setsP ps.length P).map uLV)) (doneP_skip hil hvf), trivial⟩, rfl, rfl⟩
        ((repeat ((conv => whnf); first | refine ⟨e2, ?_⟩ | refine ⟨rfl, ?_⟩)); trivial)
    · have hil : i = ps.length := by rw [ltI_f] at g2; omega
      subst hil
      subst hKK
      ((repeat ((conv => whnf); first | refine brT ?_ | refine brF ?_)); conv => whnf)
      refine round_end (k + 1) hlt (by omega) ⟨?_, ⟨rfl, rfl, rfl, rfl, rfl, congrArg (fun P => Blk.arr 121 1 ((setsP ps.length P).map uLV)) (doneP_row ps.length V k), trivial⟩, rfl, rfl⟩
      ((repeat ((conv => whnf); first | refine ⟨e1, ?_⟩ | refine ⟨rfl, ?_⟩)); trivial)
  · have h3 : k = ps.length := by rw [ltI_f] at g1; omega
    subst h3
    ((repeat ((conv => whnf); first | refine brT ?_ | refine brF ?_)); conv => whnf)
    exact ⟨[.hs 0 ps.length], rfl, rfl, .inr ⟨[.old 5], ⟨rfl, rfl, trivial⟩, ⟨rfl, rfl, trivial⟩, rfl⟩⟩
end Go.Proofs.Ytdhmnojnkgmmnaa

namespace Go.Proofs.Ytdhmnojnkgmmnaa
open Go.Lg
set_option maxHeartbeats 3200000
set_option maxRecDepth 10000
set_option linter.unusedVariables false
set_option linter.unusedSimpArgs false

/-! ### In a valid family both ways of following a step are one -/
theorem par_one {ps : List Per} {i : Nat} {x sx born : Int} (h : parentOk (ps.take i) x sx born = true) :
    (x = -1 ∨ (0 ≤ x ∧ x.toNat < ps.length)) ∧ ∀ (b : Nat) (hb : b < ps.length), x = (b : Int) → ps[b].sex = sx := by
  unfold parentOk at h
  simp only [Bool.or_eq_true, eqI_t, Bool.and_eq_true, leI_t] at h
  rcases h with h | ⟨h0, h1⟩
  · exact ⟨.inl h, fun b hb e => by omega⟩
  · split at h1
    · cases h1
    · rename_i q hq
      obtain ⟨hl, e⟩ := List.getElem?_eq_some_iff.1 hq
      simp only [Bool.and_eq_true, eqI_t] at h1
      rw [List.length_take] at hl
      rw [List.getElem_take] at e
      refine ⟨.inr ⟨h0, by omega⟩, fun b hb ex => ?_⟩
      have eb : x.toNat = b := by omega
      subst eb
      rw [e]
      exact h1.1
theorem par_sex {ps : List Per} {us : List Uni} (h : famOk ps us = true) {i : Nat} (hi : i < ps.length) :
    ((ps[i].father = -1 ∨ (0 ≤ ps[i].father ∧ ps[i].father.toNat < ps.length)) ∧ ∀ (b : Nat) (hb : b < ps.length), ps[i].father = (b : Int) → ps[b].sex = 1) ∧
    ((ps[i].mother = -1 ∨ (0 ≤ ps[i].mother ∧ ps[i].mother.toNat < ps.length)) ∧ ∀ (b : Nat) (hb : b < ps.length), ps[i].mother = (b : Int) → ps[b].sex = 2) := by
  obtain ⟨_, _, hp, _, _⟩ := famOk_parts h
  obtain ⟨_, _, _, _, _, _, p1, p2⟩ := personOk_spec (personsTo_get hp hi hi)
  exact ⟨par_one p1, par_one p2⟩
theorem uni_sex {ps : List Per} {us : List Uni} (h : famOk ps us = true) {u : Uni} (hu : u ∈ us) :
    (∀ (b : Nat) (hb : b < ps.length), u.husband = (b : Int) → ps[b].sex = 1) ∧ (∀ (b : Nat) (hb : b < ps.length), u.wife = (b : Int) → ps[b].sex = 2) := by
  obtain ⟨k, hk, rfl⟩ := List.getElem_of_mem hu
  obtain ⟨_, _, hp, hus, _⟩ := famOk_parts h
  have hok : unionOk ps (us.take k) us[k] = true := by
    cases e : unionOk ps (us.take k) us[k] with
    | true => rfl
    | false => rw [unionsTo_no hk hk e] at hus; cases hus
  unfold unionOk at hok
  simp only [Bool.and_eq_true] at hok
  obtain ⟨⟨h1, h2⟩, _⟩ := hok
  obtain ⟨m0, ml, m⟩ := ofSex_lt h1
  obtain ⟨w0, wl, w⟩ := ofSex_lt h2
  constructor
  · intro b hb e
    have eb : us[k].husband.toNat = b := by omega
    subst eb; exact m
  · intro b hb e
    have eb : us[k].wife.toNat = b := by omega
    subst eb; exact w

/-- A father is no one's mother. -/
theorem far {ps : List Per} {us : List Uni} (h : famOk ps us = true) {i j : Nat} (hi : i < ps.length) (hj : j < ps.length) (e : ps[i].father ≠ -1) : ps[i].father ≠ ps[j].mother := by
  obtain ⟨⟨f1, f2⟩, _⟩ := par_sex h hi
  obtain ⟨_, _, m2⟩ := par_sex h hj
  intro k
  rcases f1 with f1 | ⟨f0, fl⟩
  · exact e f1
  · have a1 := f2 _ fl (by omega)
    have a2 := m2 _ fl (by omega)
    omega

theorem comN_two (x y : Per) : (eqI ((comN x y : Nat) : Int) 2) = (notB (eqI x.father (-1)) && (comB y x.father && (notB (eqI x.mother (-1)) && comB y x.mother))) := by
  show eqI (((([x.father, x.mother].filter notNone).filter (comB y)).length : Nat) : Int) 2 = (notNone x.father && (comB y x.father && (notNone x.mother && comB y x.mother)))
  cases h1 : notNone x.father <;> cases h2 : notNone x.mother <;> cases h3 : comB y x.father <;> cases h4 : comB y x.mother <;> simp [-List.filter_filter, List.filter_cons, h1, h2, h3, h4, eqI_d]
theorem any_ext {α : Type} {p q : α → Bool} : ∀ {l : List α}, (∀ u ∈ l, p u = q u) → l.any p = l.any q
  | [], _ => rfl
  | u :: l, h => by rw [List.any_cons, List.any_cons, h u (by simp), any_ext (l := l) fun v hv => h v (by simp [hv])]

theorem sib_full {ps : List Per} {us : List Uni} (h : famOk ps us = true) {a b : Nat} (ha : a < ps.length) (hb : b < ps.length) : sibB ps[a] ps[b] a b = fullB ps[a] ps[b] a b := by
  unfold sibB fullB
  rw [comN_two]
  have f1 := (par_sex h ha).1.1
  have f2 := (par_sex h ha).2.1
  have f3 := fun e => far h ha hb e
  have f4 := fun e => far h hb ha e
  have f5 := fun e => far h ha ha e
  unfold comB
  simp only [eqI_d, leI_d, notB_d]
  generalize ps[a].father = F at *
  generalize ps[a].mother = M at *
  generalize ps[b].father = F' at *
  generalize ps[b].mother = M' at *
  rw [Bool.eq_iff_iff]
  simp only [Bool.and_eq_true, Bool.or_eq_true, Bool.not_eq_true', decide_eq_true_eq, decide_eq_false_iff_not]
  constructor
  · rintro ⟨n, h1, h2, h3, h4⟩
    refine ⟨n, by omega, by omega, ?_, ?_⟩
    · have := f3 h1; omega
    · by_cases e : F' = -1
      · omega
      · have := f4 e; omega
  · rintro ⟨n, h1, h2, h3, h4⟩
    exact ⟨n, by omega, by omega, by omega, by omega⟩
theorem age_eq (ps : List Per) (g a b : Int) : ageX ps g a b = ageB ps g a b := by
  unfold ageX ageB
  simp only [eqI_d, notB_d]
  by_cases h1 : g = 1
  · subst h1; simp
  · by_cases h2 : g = 2
    · subst h2; simp
    · simp [h1, h2]

section
variable {ps : List Per} {us : List Uni} {s : Pr} (h : famOk ps us = true)
include h
theorem same_a (hk : (eqI s.a 1 || eqI s.a 2) = true) (a b : Nat) (ha : a < ps.length) (hb : b < ps.length) : l3P ps us s a b = (eqI ps[b].sex (sxOf s.a) && chB ps[a] b) := by
  have f1 := (par_sex h ha).1.2 b hb
  have f2 := (par_sex h ha).2.2 b hb
  simp only [l3P, List.getElem?_eq_getElem ha, List.getElem?_eq_getElem hb, kinB, chB]
  simp only [Bool.or_eq_true, eqI_t] at hk
  rcases hk with e | e
  · have e1 : sxOf s.a = 1 := by rw [e]; simp [sxOf, eqI_d]
    rw [e1, e]
    simp only [eqI_d]
    rw [Bool.eq_iff_iff]
    simp only [Bool.and_eq_true, Bool.or_eq_true, decide_eq_true_eq, decide_true]
    constructor
    · rintro ⟨h1, h2⟩; exact ⟨h1, .inl h2⟩
    · rintro ⟨h1, h2 | h2⟩
      · exact ⟨h1, h2⟩
      · have := f2 h2; omega
  · have e1 : sxOf s.a = 2 := by rw [e]; simp [sxOf, eqI_d]
    rw [e1, e]
    simp only [eqI_d]
    rw [Bool.eq_iff_iff]
    simp
    intro h1 h2
    have := f1 h2; omega
theorem same_b (h1 : eqI s.a 1 = false) (h2 : eqI s.a 2 = false) (hk : (eqI s.a 3 || eqI s.a 4) = true) (a b : Nat) (ha : a < ps.length) (hb : b < ps.length) :
    l3P ps us s a b = (eqI ps[b].sex (sxOf s.a) && (sibB ps[a] ps[b] a b && ageX ps s.b a b)) := by
  simp only [l3P, List.getElem?_eq_getElem ha, List.getElem?_eq_getElem hb, kinB, h1, h2]
  have e5 : (eqI s.a 5 || eqI s.a 6) = false := by simp only [eqI_d] at *; simp only [Bool.or_eq_true, decide_eq_true_eq] at hk; simp; omega
  have e7 : (eqI s.a 7 || eqI s.a 8) = false := by simp only [eqI_d] at *; simp only [Bool.or_eq_true, decide_eq_true_eq] at hk; simp; omega
  simp only [e5, e7]
  rw [sib_full h ha hb, age_eq, Bool.and_comm (fullB _ _ _ _)]
omit h in
theorem same_c (h1 : eqI s.a 1 = false) (h2 : eqI s.a 2 = false) (hk : (eqI s.a 5 || eqI s.a 6) = true) (a b : Nat) (ha : a < ps.length) (hb : b < ps.length) :
    l3P ps us s a b = (eqI ps[b].sex (sxOf s.a) && chB ps[b] a) := by
  simp only [l3P, List.getElem?_eq_getElem ha, List.getElem?_eq_getElem hb, kinB, h1, h2, hk, chB]
theorem same_d (h7 : eqI s.a 7 = true) (a b : Nat) (ha : a < ps.length) (hb : b < ps.length) :
    l3P ps us s a b = (eqI ps[b].sex (sxOf s.a) && us.any (unitedOf b a)) := by
  rw [eqI_t] at h7
  have e1 : sxOf s.a = 1 := by rw [h7]; simp [sxOf, eqI_d]
  simp only [l3P, List.getElem?_eq_getElem ha, List.getElem?_eq_getElem hb, kinB, e1]
  rw [h7]
  simp only [eqI_d]
  by_cases hs : ps[b].sex = 1
  · simp only [hs]
    congr 1
    show us.any (wedB a b) = us.any (unitedOf b a)
    refine any_ext fun u hu => ?_
    have m1 := (uni_sex h hu).1 a ha
    have m2 := (uni_sex h hu).2 a ha
    have w2 := (uni_sex h hu).2 b hb
    unfold wedB unitedOf
    simp only [eqI_d]
    rw [Bool.eq_iff_iff]
    by_cases hh : u.husband = (a : Int)
    · have n1 : ¬ u.wife = (b : Int) := fun e => by have := w2 e; omega
      have n2 : ¬ u.wife = (a : Int) := fun e => by have := m1 hh; have := m2 e; omega
      simp [hh, n1, n2]
    · simp [hh, and_comm]
  · simp [hs]
theorem same_e (h8 : eqI s.a 8 = true) (a b : Nat) (ha : a < ps.length) (hb : b < ps.length) :
    l3P ps us s a b = (eqI ps[b].sex (sxOf s.a) && us.any (unitedOf a b)) := by
  rw [eqI_t] at h8
  have e1 : sxOf s.a = 2 := by rw [h8]; simp [sxOf, eqI_d]
  simp only [l3P, List.getElem?_eq_getElem ha, List.getElem?_eq_getElem hb, kinB, e1]
  rw [h8]
  simp only [eqI_d]
  by_cases hs : ps[b].sex = 2
  · simp only [hs]
    congr 1
    show us.any (wedB a b) = us.any (unitedOf a b)
    refine any_ext fun u hu => ?_
    have m1 := (uni_sex h hu).1 b hb
    unfold wedB unitedOf
    simp only [eqI_d]
    rw [Bool.eq_iff_iff]
    by_cases hh : u.husband = (a : Int)
    · simp [hh]
    · have n1 : ¬ u.husband = (b : Int) := fun e => by have := m1 e; omega
      simp [hh, n1]
  · simp [hs]
end

/-- What impl reaches, by one predicate, whatever the kind. -/
theorem reachOf_h (ps : List Per) (us : List Uni) (s : Pr) (h : famOk ps us = true) (hs : stepB s.a s.b 0 = true) :
    HSpec env.P 235 [famLV ps us, s.lv] [] (.hs 0 ps.length) [.arr 121 1 ((setsP ps.length (doneP ps.length (l3P ps us s) ps.length 0)).map uLV)] := by
  have hN := (famOk_parts h).1
  cases h12 : (eqI s.a 1 || eqI s.a 2)
  rotate_left
  · exact reachOf_a ps us s hN h12 _ (fun a b ha hb => same_a h h12 a b ha hb)
  obtain ⟨h1, h2⟩ := Bool.or_eq_false_iff.1 h12
  cases h34 : (eqI s.a 3 || eqI s.a 4)
  rotate_left
  · exact reachOf_b ps us s hN h1 h2 h34 _ (fun a b ha hb => same_b h h1 h2 h34 a b ha hb)
  obtain ⟨h3, h4⟩ := Bool.or_eq_false_iff.1 h34
  cases h56 : (eqI s.a 5 || eqI s.a 6)
  rotate_left
  · exact reachOf_c ps us s hN h1 h2 h3 h4 h56 _ (fun a b ha hb => same_c h1 h2 h56 a b ha hb)
  obtain ⟨h5, h6⟩ := Bool.or_eq_false_iff.1 h56
  cases h7 : eqI s.a 7
  · have h8 : eqI s.a 8 = true := by
      unfold stepB at hs
      simp only [h1, h2, h3, h4, h5, h6, h7] at hs
      simp only [Bool.or_false, Bool.false_and, Bool.false_or, Bool.or_self, Bool.and_eq_true] at hs
      exact hs.1
    exact reachOf_e ps us s hN h1 h2 h3 h4 h5 h6 h7 _ (fun a b ha hb => same_e h h8 a b ha hb)
  · exact reachOf_d ps us s hN h1 h2 h3 h4 h5 h6 h7 _ (fun a b ha hb => same_d h h7 a b ha hb)
end Go.Proofs.Ytdhmnojnkgmmnaa
namespace Go.Proofs.Ytdhmnojnkgmmnaa
open Go.Lg
set_option maxHeartbeats 6400000
set_option maxRecDepth 10000
set_option linter.unusedVariables false
set_option linter.unusedSimpArgs false

theorem stepN_le {ps : List Per} {us : List Uni} {s : Pr} : stepN ps us s ≤ 40 := by
  unfold stepN
  cases h : famOk ps us
  · simp
  · have := (famOk_parts h).1
    cases stepB s.a s.b 0 <;> simp <;> omega
theorem WeakS.idn {n0 : Nat} {ts : List LV} {H : List Blk} (h1 : wk ts ts) (h2 : wkH n0 H H) (h3 : (scs (below H.length) ts && H.all (scB (below H.length))) = true) : Weak n0 ts H ts H := by
  simp only [Bool.and_eq_true] at h3
  exact .inl ⟨h1, h2, h3.1, h3.2⟩
end Go.Proofs.Ytdhmnojnkgmmnaa
namespace Go.Proofs.Ytdhmnojnkgmmnaa
open Go.Lg Go.RowKit Go.ChangeShapes Go.WideShapes Go.Deep Go.Joins
set_option linter.unusedVariables false
set_option linter.unusedSimpArgs false
set_option maxRecDepth 100000

theorem per_of_shape : ∀ {ls : List LV}, shapeK [.str, .int .i64, .int .i64, .int .i64, .int .i64, .int .i64] ls → ∃ p : Per, LV.st ls = p.lv ∧ p.name.size ≤ maxLen
  | [a, b, c, d, e, f], h => by
    obtain ⟨⟨s, rfl, hs⟩, ⟨n1, rfl⟩, ⟨n2, rfl⟩, ⟨n3, rfl⟩, ⟨n4, rfl⟩, ⟨n5, rfl⟩, _⟩ := h
    exact ⟨⟨s, n1, n2, n3, n4, n5⟩, rfl, hs⟩
theorem uni_of_shape : ∀ {ls : List LV}, shapeK [.int .i64, .int .i64, .int .i64, .int .i64] ls → ∃ p : Uni, LV.st ls = p.lv ∧ True
  | [b, c, d, e], h => by
    obtain ⟨⟨n1, rfl⟩, ⟨n2, rfl⟩, ⟨n3, rfl⟩, ⟨n4, rfl⟩, _⟩ := h
    exact ⟨⟨n1, n2, n3, n4⟩, rfl, trivial⟩
theorem list_of {α : Type} {lv : α → LV} {Q : α → Prop} : ∀ (xs : List LV), (∀ x ∈ xs, ∃ p, x = lv p ∧ Q p) → ∃ ps : List α, xs = ps.map lv ∧ ∀ p ∈ ps, Q p
  | [], _ => ⟨[], rfl, by simp⟩
  | x :: xs, h => by
    obtain ⟨p, rfl, hp⟩ := h x (by simp)
    obtain ⟨ps, rfl, hps⟩ := list_of xs fun y hy => h y (by simp [hy])
    exact ⟨p :: ps, rfl, List.forall_mem_cons.2 ⟨hp, hps⟩⟩

section
variable {H : Type} {enc : TypeId × Value → H} {w : World}
theorem fam_of_arg {b0 : Nat} {r : Reach} {v : Value} {d : DataW H} {p : List MemPlace} (hv : Value.okWide Try.prog w r b0 25 v) (h : DataW.Trod enc Try.prog w 0 (fun _ => true) true 25 v d p) :
    ∃ ps us, FamOK ps us ∧ RT (pctx (fun _ => False) w) (famLV ps us) v := by
  obtain ⟨v0, v1, y0, y1, n, rfl, _, _, h0, h1⟩ := open_agg2 Try.underlying25 (by kernel_rfl) (by kernel_rfl) hv h
  obtain ⟨xs, r0, l0, s0⟩ := sl_of_rows (O := fun _ => False) (fun _ h => h) (ks := [.str, .int .i64, .int .i64, .int .i64, .int .i64, .int .i64]) Try.underlying22 Try.underlying193 (by kernel_rfl) (by kernel_rfl) (fieldsK_of (by kernel_rfl)) (by decide) h0
  obtain ⟨ys, r1, l1, s1⟩ := sl_of_rows (O := fun _ => False) (fun _ h => h) (ks := [.int .i64, .int .i64, .int .i64, .int .i64]) Try.underlying23 Try.underlying196 (by kernel_rfl) (by kernel_rfl) (fieldsK_of (by kernel_rfl)) (by decide) h1
  obtain ⟨ps, rfl, hps⟩ := list_of (lv := Per.lv) (Q := fun p => p.name.size ≤ maxLen) xs fun x hx => by obtain ⟨ls, rfl, hs⟩ := s0 x hx; exact per_of_shape hs
  obtain ⟨us, rfl, _⟩ := list_of (lv := Uni.lv) (Q := fun _ => True) ys fun x hx => by obtain ⟨ls, rfl, hs⟩ := s1 x hx; exact uni_of_shape hs
  refine ⟨ps, us, ⟨by simpa using l0, by simpa using l1, hps⟩, #[v0, v1], rfl, [v0], [v1], rfl, r0, [v1], [], rfl, r1, by simp [RCs]⟩
end
end Go.Proofs.Ytdhmnojnkgmmnaa

namespace Go.Proofs.Ytdhmnojnkgmmnaa
open Go.Lg
set_option maxRecDepth 10000
set_option linter.unusedVariables false
set_option linter.unusedSimpArgs false

/-! ### A family, out of an argument's shape -/
abbrev shPer : Sh := .st [.str, .int .i64, .int .i64, .int .i64, .int .i64, .int .i64]
abbrev shUni : Sh := .st [.int .i64, .int .i64, .int .i64, .int .i64]
abbrev shFam : Sh := .st [.sl (.st [.str, .int .i64, .int .i64, .int .i64, .int .i64, .int .i64]), .sl (.st [.int .i64, .int .i64, .int .i64, .int .i64])]
theorem per_of_sh {x : LV} (h : hasSh shPer x) : ∃ p : Per, x = p.lv ∧ p.name.size ≤ maxLen := by
  simp only [hasSh] at h
  obtain ⟨xs, rfl, h⟩ := h
  match xs, h with
  | [a, b, c, d, e, f], h =>
    simp only [hasShs, hasSh] at h
    obtain ⟨⟨s, rfl, hs⟩, ⟨n1, rfl⟩, ⟨n2, rfl⟩, ⟨n3, rfl⟩, ⟨n4, rfl⟩, ⟨n5, rfl⟩, _⟩ := h
    exact ⟨⟨s, n1, n2, n3, n4, n5⟩, rfl, hs⟩
  | [], h => simp [hasShs] at h
  | [_], h => simp [hasShs] at h
  | [_, _], h => simp [hasShs] at h
  | [_, _, _], h => simp [hasShs] at h
  | [_, _, _, _], h => simp [hasShs] at h
  | [_, _, _, _, _], h => simp [hasShs] at h
  | _ :: _ :: _ :: _ :: _ :: _ :: _ :: _, h => simp [hasShs] at h
theorem uni_of_sh {x : LV} (h : hasSh shUni x) : ∃ u : Uni, x = u.lv ∧ True := by
  simp only [hasSh] at h
  obtain ⟨xs, rfl, h⟩ := h
  match xs, h with
  | [a, b, c, d], h =>
    simp only [hasShs, hasSh] at h
    obtain ⟨⟨n1, rfl⟩, ⟨n2, rfl⟩, ⟨n3, rfl⟩, ⟨n4, rfl⟩, _⟩ := h
    exact ⟨⟨n1, n2, n3, n4⟩, rfl, trivial⟩
  | [], h => simp [hasShs] at h
  | [_], h => simp [hasShs] at h
  | [_, _], h => simp [hasShs] at h
  | [_, _, _], h => simp [hasShs] at h
  | _ :: _ :: _ :: _ :: _ :: _, h => simp [hasShs] at h
theorem fam_of_sh {x : LV} (h : hasSh shFam x) : ∃ (ps : List Per) (us : List Uni), x = famLV ps us ∧ FamOK ps us := by
  simp only [hasSh] at h
  obtain ⟨xs, rfl, h⟩ := h
  match xs, h with
  | [a, b], h =>
    simp only [hasShs, hasSh] at h
    obtain ⟨⟨ys, rfl, hl, hy⟩, ⟨zs, rfl, hm, hz⟩, _⟩ := h
    obtain ⟨ps, rfl, hps⟩ := list_of (lv := Per.lv) (Q := fun p => p.name.size ≤ maxLen) ys fun y hy' => per_of_sh (by simp only [hasSh]; exact hy y hy')
    obtain ⟨us, rfl, _⟩ := list_of (lv := Uni.lv) (Q := fun _ => True) zs fun y hy' => uni_of_sh (by simp only [hasSh]; exact hz y hy')
    exact ⟨ps, us, rfl, ⟨by simpa using hl, by simpa using hm, hps⟩⟩
  | [], h => simp [hasShs] at h
  | [_], h => simp [hasShs] at h
  | _ :: _ :: _ :: _, h => simp [hasShs] at h
end Go.Proofs.Ytdhmnojnkgmmnaa

namespace Go.Proofs.Ytdhmnojnkgmmnaa
open Go.Lg Go.Pm
set_option maxHeartbeats 3200000
set_option maxRecDepth 10000
set_option linter.unusedVariables false
set_option linter.unusedSimpArgs false

/-! ### Exogamy -/
theorem ints_at {g : List Int} {x : Int} (h0 : 0 ≤ x) (hx : x.toNat < g.length) : (g.map intLV)[x.toNat]? = some (intLV (g.getD x.toNat 0)) := by
  rw [List.getElem?_map, List.getElem?_eq_getElem hx, List.getD_eq_getElem?_getD, List.getElem?_eq_getElem hx]; rfl
def alikeU (g : List Int) (u : Uni) : Bool := eqI (g.getD u.husband.toNat 0) (g.getD u.wife.toNat 0)
theorem exo1_spec (g : List Int) (u : Uni) (hm : 0 ≤ u.husband ∧ u.husband.toNat < g.length) (hw : 0 ≤ u.wife ∧ u.wife.toNat < g.length) :
    FSpec env.P 117 [u.lv, .ref (rowSl g)] (.bool (alikeU g u)) := by
  refine FSpec_of_code env_ok (fn := Try.f117) Try.func117 rfl Try.call117 _ _ ?_
  ((repeat ((conv => whnf); first | refine brT ?_ | refine brF ?_)); conv => whnf)
  refine ⟨true, by kernel_rfl, ?_⟩
  ((repeat ((conv => whnf); first | refine brT ?_ | refine brF ?_)); conv => whnf)
  refine ⟨u.husband.toNat, intLV (g.getD u.husband.toNat 0), by omega, ints_at hm.1 hm.2, rfl, ?_⟩
  ((repeat ((conv => whnf); first | refine brT ?_ | refine brF ?_)); conv => whnf)
  refine ⟨u.wife.toNat, intLV (g.getD u.wife.toNat 0), by omega, ints_at hw.1 hw.2, rfl, ?_⟩
  ((repeat ((conv => whnf); first | refine brT ?_ | refine brF ?_)); conv => whnf)
  exact fin rfl
theorem indexUni (F : Nat) (y : LV) (q : Uni → Bool) (us : List Uni) (hF : ∀ u ∈ us, FSpec env.P F [u.lv, .ref y] (.bool (q u))) :
    FSpec env.P 209 [.sl (us.map Uni.lv), .clos F [.ref y]] (.int .i64 (idxFrom q 0 us)) := by
  refine FSpec_of_code env_ok (fn := Try.f209) Try.func209 rfl Try.call209 _ _ ?_
  ((repeat ((conv => whnf); first | refine brT ?_ | refine brF ?_)); conv => whnf)
  intro hp
  have hp' : us.length ≤ Go.maxLen := by simpa using hp
  ((repeat ((conv => whnf); first | refine brT ?_ | refine brF ?_)); conv => whnf)
  refine loop_rule (α := Nat) (fun k => [(8, .int .i64 (k : Int))]) (fun k => []) (fun k => us.length - k) (fun k => k ≤ us.length ∧ idxFrom q k (us.drop k) = idxFrom q 0 us) 0 ⟨Nat.zero_le _, rfl⟩ ?_ ?_
  · refine ⟨?_, trivial, rfl, rfl⟩
    ((repeat ((conv => whnf); refine ⟨rfl, ?_⟩)); trivial)
  rintro k ⟨hk, hf⟩
  ((repeat ((conv => whnf); first | refine brT ?_ | refine brF ?_)); conv => whnf)
  (refine ⟨fun h1 => ?_, fun h1 => ?_⟩ <;> rw [h1])
  · have hlt : k < us.length := by rw [ltI_t] at h1; simp at h1; omega
    rw [List.drop_eq_getElem_cons hlt] at hf
    simp only [idxFrom] at hf
    ((repeat ((conv => whnf); first | refine brT ?_ | refine brF ?_)); conv => whnf)
    refine ⟨k, us[k].lv, rfl, by simp [hlt], rfl, ?_⟩
    ((repeat ((conv => whnf); first | refine brT ?_ | refine brF ?_)); conv => whnf)
    refine ⟨_, hF us[k] (List.getElem_mem hlt), ?_⟩
    ((repeat ((conv => whnf); first | refine brT ?_ | refine brF ?_)); conv => whnf)
    (refine ⟨fun h2 => ?_, fun h2 => ?_⟩ <;> rw [h2])
    · rw [h2] at hf
      ((repeat ((conv => whnf); first | refine brT ?_ | refine brF ?_)); conv => whnf)
      exact ⟨rfl, by rw [← hf], List.nodup_nil⟩
    · rw [h2] at hf
      ((repeat ((conv => whnf); first | refine brT ?_ | refine brF ?_)); conv => whnf)
      refine round_end (k + 1) ⟨hlt, hf⟩ (by omega) ⟨?_, trivial, rfl, rfl⟩
      have e := step_i hlt hp'
      ((repeat ((conv => whnf); first | refine ⟨e, ?_⟩ | refine ⟨rfl, ?_⟩)); trivial)
  · have h3 : us.length ≤ k := by rw [ltI_f] at h1; simp at h1; omega
    rw [List.drop_eq_nil_of_le h3] at hf
    ((repeat ((conv => whnf); first | refine brT ?_ | refine brF ?_)); conv => whnf)
    exact ⟨rfl, by rw [← hf]; rfl, List.nodup_nil⟩
theorem containsUni (F : Nat) (y : LV) (q : Uni → Bool) (us : List Uni) (hF : ∀ u ∈ us, FSpec env.P F [u.lv, .ref y] (.bool (q u))) :
    FSpec env.P 116 [.sl (us.map Uni.lv), .clos F [.ref y]] (.bool (us.any q)) := by
  refine FSpec_of_code env_ok (fn := Try.f116) Try.func116 rfl Try.call116 _ _ ?_
  ((repeat ((conv => whnf); first | refine brT ?_ | refine brF ?_)); conv => whnf)
  refine ⟨_, indexUni F y q us hF, ?_⟩
  ((repeat ((conv => whnf); first | refine brT ?_ | refine brF ?_)); conv => whnf)
  exact fin (idxFrom_ge _ _ _)
def exoB (ps : List Per) (us : List Uni) (g : List Int) : Bool := famOk ps us && (eqI (g.length : Int) (ps.length : Int) && notB (us.any (alikeU g)))
theorem uni_in {ps : List Per} {us : List Uni} {g : List Int} (hf : famOk ps us = true) (hg : g.length = ps.length) : ∀ u ∈ us, (0 ≤ u.husband ∧ u.husband.toNat < g.length) ∧ (0 ≤ u.wife ∧ u.wife.toNat < g.length) := fun u hu => by
  obtain ⟨k, hk, rfl⟩ := List.mem_iff_getElem.1 hu
  obtain ⟨h, _⟩ := uni_of hf hk
  exact ⟨⟨h.m0, by rw [hg]; exact h.ml⟩, ⟨h.w0, by rw [hg]; exact h.wl⟩⟩
theorem exo_impl (ps : List Per) (us : List Uni) (g : List Int) : FSpec env.P 36 [famLV ps us, rowSl g] (.bool (exoB ps us g)) := by
  refine FSpec_of_code env_ok (fn := Try.f36) Try.func36 rfl Try.call36 _ _ ?_
  have hP : (ps.map Per.lv).length = ps.length := List.length_map ..
  have hG : (g.map intLV).length = g.length := List.length_map ..
  ((repeat ((conv => whnf); first | refine brT ?_ | refine brF ?_)); conv => whnf)
  intro _
  ((repeat ((conv => whnf); first | refine brT ?_ | refine brF ?_)); conv => whnf)
  intro _
  ((repeat ((conv => whnf); first | refine brT ?_ | refine brF ?_)); conv => whnf)
  rw [hG, hP]
  cases h1 : eqI (g.length : Int) (ps.length : Int)
  · rw [show notB false = true by simp [notB]]
    ((repeat ((conv => whnf); first | refine brT ?_ | refine brF ?_)); conv => whnf)
    refine fin ?_; simp [exoB, h1]
  rw [show notB true = false by simp [notB]]
  ((repeat ((conv => whnf); first | refine brT ?_ | refine brF ?_)); conv => whnf)
  refine ⟨_, isFamily_impl ps us, ?_⟩
  ((repeat ((conv => whnf); first | refine brT ?_ | refine brF ?_)); conv => whnf)
  cases h2 : famOk ps us
  · rw [show notB false = true by simp [notB]]
    ((repeat ((conv => whnf); first | refine brT ?_ | refine brF ?_)); conv => whnf)
    refine fin ?_; simp [exoB, h2]
  rw [show notB true = false by simp [notB]]
  have hi := uni_in h2 (show g.length = ps.length by have := eqI_t.1 h1; omega)
  ((repeat ((conv => whnf); first | refine brT ?_ | refine brF ?_)); conv => whnf)
  refine ⟨_, containsUni _ _ (alikeU g) us fun u hu => exo1_spec g u (hi u hu).1 (hi u hu).2, ?_⟩
  ((repeat ((conv => whnf); first | refine brT ?_ | refine brF ?_)); conv => whnf)
  refine fin ?_; simp [exoB, h1, h2]
theorem exo_spec (ps : List Per) (us : List Uni) (g : List Int) : FSpec env.P 34 [famLV ps us, rowSl g] (.bool (exoB ps us g)) := by
  refine FSpec_of_code env_ok (fn := Try.f34) Try.func34 rfl Try.call34 _ _ ?_
  have hP : (ps.map Per.lv).length = ps.length := List.length_map ..
  have hG : (g.map intLV).length = g.length := List.length_map ..
  ((repeat ((conv => whnf); first | refine brT ?_ | refine brF ?_)); conv => whnf)
  refine ⟨_, isFamily_spec ps us, ?_⟩
  ((repeat ((conv => whnf); first | refine brT ?_ | refine brF ?_)); conv => whnf)
  cases h2 : famOk ps us
  · rw [show notB false = true by simp [notB]]
    ((repeat ((conv => whnf); first | refine brT ?_ | refine brF ?_)); conv => whnf)
    refine fin ?_; simp [exoB, h2]
  rw [show notB true = false by simp [notB]]
  ((repeat ((conv => whnf); first | refine brT ?_ | refine brF ?_)); conv => whnf)
  intro _
  ((repeat ((conv => whnf); first | refine brT ?_ | refine brF ?_)); conv => whnf)
  intro _
  ((repeat ((conv => whnf); first | refine brT ?_ | refine brF ?_)); conv => whnf)
  rw [hG, hP]
  cases h1 : eqI (g.length : Int) (ps.length : Int)
  · rw [show notB false = true by simp [notB]]
    ((repeat ((conv => whnf); first | refine brT ?_ | refine brF ?_)); conv => whnf)
    refine fin ?_; simp [exoB, h1]
  rw [show notB true = false by simp [notB]]
  have hi := uni_in h2 (show g.length = ps.length by have := eqI_t.1 h1; omega)
  ((repeat ((conv => whnf); first | refine brT ?_ | refine brF ?_)); conv => whnf)
  intro hm
  have hu : us.length ≤ Go.maxLen := by simpa using hm
  ((repeat ((conv => whnf); first | refine brT ?_ | refine brF ?_)); conv => whnf)
  refine loop_rule (α := Nat) (fun k => [(21, .int .i64 (k : Int))]) (fun k => [.box (famLV ps us)]) (fun k => us.length - k) (fun k => k ≤ us.length ∧ (us.drop k).any (alikeU g) = us.any (alikeU g)) 0 ⟨Nat.zero_le _, rfl⟩ ?_ ?_
  · refine ⟨?_, ⟨rfl, trivial⟩, rfl, rfl⟩
    ((repeat ((conv => whnf); refine ⟨rfl, ?_⟩)); trivial)
  rintro k ⟨hk, hf⟩
  ((repeat ((conv => whnf); first | refine brT ?_ | refine brF ?_)); conv => whnf)
  (refine ⟨fun g1 => ?_, fun g1 => ?_⟩ <;> rw [g1])
  · have hlt : k < us.length := by rw [ltI_t] at g1; simp at g1; omega
    obtain ⟨⟨m0, ml⟩, ⟨w0, wl⟩⟩ := hi us[k] (List.getElem_mem hlt)
    rw [List.drop_eq_getElem_cons hlt, List.any_cons] at hf
    have e := step_i hlt hu
    ((repeat ((conv => whnf); first | refine brT ?_ | refine brF ?_)); conv => whnf)
    refine ⟨k, us[k].lv, rfl, by simp [hlt], rfl, ?_⟩
    ((repeat ((conv => whnf); first | refine brT ?_ | refine brF ?_)); conv => whnf)
    refine ⟨true, by kernel_rfl, ?_⟩
    ((repeat ((conv => whnf); first | refine brT ?_ | refine brF ?_)); conv => whnf)
    refine ⟨us[k].husband.toNat, intLV (g.getD us[k].husband.toNat 0), by omega, ints_at m0 ml, rfl, ?_⟩
    ((repeat ((conv => whnf); first | refine brT ?_ | refine brF ?_)); conv => whnf)
    refine ⟨us[k].wife.toNat, intLV (g.getD us[k].wife.toNat 0), by omega, ints_at w0 wl, rfl, ?_⟩
    ((repeat ((conv => whnf); first | refine brT ?_ | refine brF ?_)); conv => whnf)
    (refine ⟨fun g2 => ?_, fun g2 => ?_⟩ <;> rw [g2])
    · have ha : alikeU g us[k] = true := g2
      rw [ha, Bool.true_or] at hf
      ((repeat ((conv => whnf); first | refine brT ?_ | refine brF ?_)); conv => whnf)
      refine fin ?_; simp [exoB, ← hf, notB]
    · have ha : alikeU g us[k] = false := g2
      rw [ha, Bool.false_or] at hf
      ((repeat ((conv => whnf); first | refine brT ?_ | refine brF ?_)); conv => whnf)
      refine round_end (k + 1) ⟨hlt, hf⟩ (by omega) ⟨?_, ⟨rfl, trivial⟩, rfl, rfl⟩
      ((repeat ((conv => whnf); first | refine ⟨e, ?_⟩ | refine ⟨rfl, ?_⟩)); trivial)
  · have h3 : us.length ≤ k := by rw [ltI_f] at g1; simp at g1; omega
    rw [List.drop_eq_nil_of_le h3] at hf
    ((repeat ((conv => whnf); first | refine brT ?_ | refine brF ?_)); conv => whnf)
    refine fin ?_; simp [exoB, h1, h2, ← hf, notB]
theorem law_isExogamous (ps : List Per) (us : List Uni) (g : List Int) (hf : FamOK ps us) (hg : g.length ≤ Go.maxLen) : FSpec env.P 5 [famLV ps us, rowSl g] (.bool true) := by
  refine FSpec_of_code env_ok (fn := Try.f5) Try.func5 rfl Try.call5 _ _ ?_
  have hG : ((g.map intLV).length : Int) = (g.length : Int) := by simp
  ((repeat ((conv => whnf); first | refine brT ?_ | refine brF ?_)); conv => whnf)
  intro _
  ((repeat ((conv => whnf); first | refine brT ?_ | refine brF ?_)); conv => whnf)
  rw [hG]
  (refine ⟨fun h0 => ?_, fun h0 => ?_⟩ <;> rw [h0])
  · ((repeat ((conv => whnf); first | refine brT ?_ | refine brF ?_)); conv => whnf); exact fin rfl
  rw [ltI_f] at h0
  ((repeat ((conv => whnf); first | refine brT ?_ | refine brF ?_)); conv => whnf)
  refine ⟨_, szFamily_spec ps us _, ?_⟩
  ((repeat ((conv => whnf); first | refine brT ?_ | refine brF ?_)); conv => whnf)
  (refine ⟨fun h => ?_, fun h => ?_⟩ <;> rw [h])
  · ((repeat ((conv => whnf); first | refine brT ?_ | refine brF ?_)); conv => whnf); exact fin rfl
  rw [ltI_f] at h
  obtain ⟨p1, u1, s1⟩ := szFam_ok (by omega) (by omega) hf h
  have hI := exo_impl ps us g
  have hS := exo_spec ps us g
  generalize exoB ps us g = b at hI hS
  ((repeat ((conv => whnf); first | refine brT ?_ | refine brF ?_)); conv => whnf)
  ((repeat' (((repeat ((conv => whnf); first | refine brT ?_ | refine brF ?_)); conv => whnf); first | (refine And.intro ?_ ?_ <;> (intro h; rw [h]; revert h; intro _)) | (refine Exists.intro true (And.intro (a := drawB _ _ = true) (by kernel_rfl) ?_)) | (refine Exists.intro _ (And.intro (toFamily_spec ps us p1 u1) ?_)) | (refine Exists.intro _ (And.intro (toIntS_f g (by omega)) ?_)) | (refine Exists.intro _ (And.intro (hS) ?_)) | (refine Exists.intro _ (And.intro (hI) ?_)) | (refine Exists.intro _ (And.intro (eqFamily_spec ps ps us us) ?_)) | (refine Exists.intro _ (And.intro (eqIntS_spec g g) ?_)))); all_goals ((repeat ((conv => whnf); first | refine brT ?_ | refine brF ?_)); conv => whnf))
  all_goals (refine fin ?_; simp_all [notB, eqB, eqFam_refl, eqIntS_refl])
end Go.Proofs.Ytdhmnojnkgmmnaa
