/- Contracts of functions of the program and of its model, told over readings. -/
import Derived.Test.YtdhmnojnkgmmnaaGreatAWGD
import Derived.Test.YtdhmnojnkgmmnaaGreatAWGB
import Derived.Test.YtdhmnojnkgmmnaaGreatAWGC
namespace Go.Proofs.YtdhmnojnkgmmnaaGreat
open Go.Lg
set_option maxHeartbeats 3200000
set_option maxRecDepth 10000
set_option linter.unusedVariables false
set_option linter.unusedSimpArgs false

/-! ### Steps in a family, as the program has them -/
def comB (y : Per) (n : Int) : Bool := eqI y.father n || eqI y.mother n
def comN (x y : Per) : Nat := ((known x).filter (comB y)).length
def comTo (x y : Per) (k : Nat) : Nat := (((known x).take k).filter (comB y)).length
theorem comTo_succ {x y : Per} {k : Nat} (h : k < (known x).length) : comTo x y (k + 1) = comTo x y k + (if comB y (known x)[k] = true then 1 else 0) := by
  unfold comTo
  rw [List.take_succ_eq_append_getElem h, List.filter_append, List.length_append]
  congr 1
  by_cases e : comB y (known x)[k] = true <;> simp [List.filter, e]
theorem comTo_le (x y : Per) (k : Nat) : comTo x y k ≤ 2 := by
  unfold comTo
  refine Nat.le_trans (List.length_filter_le _ _) ?_
  have := known_len x
  simp; omega
theorem parentsInCommon_spec (ps : List Per) (us : List Uni) (a b : Nat) (ha : a < ps.length) (hb : b < ps.length) :
    FSpec env.P 176 [famLV ps us, .int .i64 (a : Int), .int .i64 (b : Int)] (.int .i64 ((comN ps[a] ps[b] : Nat) : Int)) := by
  refine FSpec_of_code env_ok (fn := Tryz.f176) Tryz.func176 rfl Tryz.call176 _ _ ?_
  have hga : (List.map Per.lv ps)[a]? = some ps[a].lv := by simp [ha]
  have hgb : (List.map Per.lv ps)[b]? = some ps[b].lv := by simp [hb]
  generalize ps[a] = x at hga ⊢
  generalize ps[b] = y at hgb ⊢
  ((repeat ((conv => whnf); first | refine brT ?_ | refine brF ?_)); conv => whnf)
  refine ⟨a, x.lv, rfl, hga, rfl, ?_⟩
  ((repeat ((conv => whnf); first | refine brT ?_ | refine brF ?_)); conv => whnf)
  refine ⟨_, knownParents_spec x, ?_⟩
  ((repeat ((conv => whnf); first | refine brT ?_ | refine brF ?_)); conv => whnf)
  intro _
  rw [show (List.map intLV (known x)).length = (known x).length by simp]
  ((repeat ((conv => whnf); first | refine brT ?_ | refine brF ?_)); conv => whnf)
  refine loop_rule (α := Nat) (fun k => [(17, .int .i64 (k : Int)), (7, .int .i64 ((comTo x y k : Nat) : Int))]) (fun k => [.box (famLV ps us)]) (fun k => (known x).length - k) (fun k => k ≤ (known x).length) 0 (Nat.zero_le _) ?_ ?_
  · refine ⟨?_, ⟨rfl, trivial⟩, rfl, rfl⟩
    ((repeat ((conv => whnf); refine ⟨rfl, ?_⟩)); trivial)
  intro k hk
  ((repeat ((conv => whnf); first | refine brT ?_ | refine brF ?_)); conv => whnf)
  (refine ⟨fun g => ?_, fun g => ?_⟩ <;> rw [g])
  · have hlt : k < (known x).length := by rw [ltI_t] at g; omega
    have h2 := known_len x
    have e1 := step_i (n := 40) (k := k) (by omega) (by decide)
    have hc := comTo_le x y k
    have hs := comTo_succ (y := y) hlt
    ((repeat ((conv => whnf); first | refine brT ?_ | refine brF ?_)); conv => whnf)
    refine ⟨k, intLV (known x)[k], rfl, by simp [hlt], rfl, ?_⟩
    ((repeat ((conv => whnf); first | refine brT ?_ | refine brF ?_)); conv => whnf)
    refine ⟨b, y.lv, rfl, hgb, rfl, ?_⟩
    ((repeat ((conv => whnf); first | refine brT ?_ | refine brF ?_)); conv => whnf)
    (refine ⟨fun q1 => ?_, fun q1 => ?_⟩ <;> rw [q1])
    · have e2 : LV.int .i64 (IntKind.i64.wrap ((comTo x y k : Nat) + 1)) = LV.int .i64 ((comTo x y (k + 1) : Nat) : Int) := by
        rw [hs, if_pos (by simp [comB, q1]), wrap64 (by omega) (by omega)]; congr 1
      ((repeat ((conv => whnf); first | refine brT ?_ | refine brF ?_)); conv => whnf)
      refine round_end (k + 1) hlt (by omega) ⟨?_, ⟨rfl, trivial⟩, rfl, rfl⟩
      repeat ((conv => whnf); first | refine ⟨e1, ?_⟩ | refine ⟨e2, ?_⟩ | refine ⟨rfl, ?_⟩)
      trivial
    · ((repeat ((conv => whnf); first | refine brT ?_ | refine brF ?_)); conv => whnf)
      refine ⟨b, y.lv, rfl, hgb, rfl, ?_⟩
      ((repeat ((conv => whnf); first | refine brT ?_ | refine brF ?_)); conv => whnf)
      (refine ⟨fun q2 => ?_, fun q2 => ?_⟩ <;> rw [q2])
      · have e2 : LV.int .i64 (IntKind.i64.wrap ((comTo x y k : Nat) + 1)) = LV.int .i64 ((comTo x y (k + 1) : Nat) : Int) := by
          rw [hs, if_pos (by simp [comB, q2]), wrap64 (by omega) (by omega)]; congr 1
        ((repeat ((conv => whnf); first | refine brT ?_ | refine brF ?_)); conv => whnf)
        refine round_end (k + 1) hlt (by omega) ⟨?_, ⟨rfl, trivial⟩, rfl, rfl⟩
        repeat ((conv => whnf); first | refine ⟨e1, ?_⟩ | refine ⟨e2, ?_⟩ | refine ⟨rfl, ?_⟩)
        trivial
      · have e2 : LV.int .i64 ((comTo x y k : Nat) : Int) = LV.int .i64 ((comTo x y (k + 1) : Nat) : Int) := by
          rw [hs, if_neg (by simp [comB, q1, q2])]; rfl
        ((repeat ((conv => whnf); first | refine brT ?_ | refine brF ?_)); conv => whnf)
        refine round_end (k + 1) hlt (by omega) ⟨?_, ⟨rfl, trivial⟩, rfl, rfl⟩
        repeat ((conv => whnf); first | refine ⟨e1, ?_⟩ | refine ⟨e2, ?_⟩ | refine ⟨rfl, ?_⟩)
        trivial
  · have h3 : k = (known x).length := by rw [ltI_f] at g; omega
    subst h3
    ((repeat ((conv => whnf); first | refine brT ?_ | refine brF ?_)); conv => whnf)
    exact ⟨rfl, by unfold comN comTo; rw [List.take_length], List.nodup_nil⟩
def sibB (x y : Per) (a b : Int) : Bool := notB (eqI a b) && eqI ((comN x y : Nat) : Int) 2
theorem areFullSiblings_spec (ps : List Per) (us : List Uni) (a b : Nat) (ha : a < ps.length) (hb : b < ps.length) :
    FSpec env.P 170 [famLV ps us, .int .i64 (a : Int), .int .i64 (b : Int)] (.bool (sibB ps[a] ps[b] a b)) := by
  refine FSpec_of_code env_ok (fn := Tryz.f170) Tryz.func170 rfl Tryz.call170 _ _ ?_
  ((repeat' (((repeat ((conv => whnf); first | refine brT ?_ | refine brF ?_)); conv => whnf); first | (refine And.intro ?_ ?_ <;> (intro h; rw [h]; revert h; intro _)) | (refine Exists.intro true (And.intro (a := drawB _ _ = true) (by kernel_rfl) ?_)) | (refine Exists.intro _ (And.intro (parentsInCommon_spec ps us a b ha hb) ?_)))); all_goals ((repeat ((conv => whnf); first | refine brT ?_ | refine brF ?_)); conv => whnf))
  all_goals (refine fin ?_; simp_all [sibB])
def ageX (ps : List Per) (g a b : Int) : Bool := match eqI g 1 with | true => elder ps b a | false => match eqI g 2 with | true => elder ps a b | false => true
theorem isOfAge_spec (ps : List Per) (us : List Uni) (g : Int) (a b : Nat) (ha : a < ps.length) (hb : b < ps.length) :
    FSpec env.P 171 [famLV ps us, .int .i64 g, .int .i64 (a : Int), .int .i64 (b : Int)] (.bool (ageX ps g a b)) := by
  refine FSpec_of_code env_ok (fn := Tryz.f171) Tryz.func171 rfl Tryz.call171 _ _ ?_
  ((repeat' (((repeat ((conv => whnf); first | refine brT ?_ | refine brF ?_)); conv => whnf); first | (refine And.intro ?_ ?_ <;> (intro h; rw [h]; revert h; intro _)) | (refine Exists.intro true (And.intro (a := drawB _ _ = true) (by kernel_rfl) ?_)) | (refine Exists.intro _ (And.intro (compareAge_spec ps us (b : Int) (a : Int) (by omega) (by simpa using hb) (by omega) (by simpa using ha)) ?_)) | (refine Exists.intro _ (And.intro (compareAge_spec ps us (a : Int) (b : Int) (by omega) (by simpa using ha) (by omega) (by simpa using hb)) ?_)))); all_goals ((repeat ((conv => whnf); first | refine brT ?_ | refine brF ?_)); conv => whnf))
  all_goals (refine fin ?_; simp only [age_elder, ageX, *])
def chB (x : Per) (b : Int) : Bool := eqI x.father b || eqI x.mother b
theorem link1_spec (ps : List Per) (us : List Uni) (a b : Nat) (ha : a < ps.length) :
    FSpec env.P 168 [.int .i64 (a : Int), .int .i64 (b : Int), .ref (famLV ps us)] (.bool (chB ps[a] b)) := by
  refine FSpec_of_code env_ok (fn := Tryz.f168) Tryz.func168 rfl Tryz.call168 _ _ ?_
  have hga : (List.map Per.lv ps)[a]? = some ps[a].lv := by simp [ha]
  generalize ps[a] = x at hga ⊢
  ((repeat ((conv => whnf); first | refine brT ?_ | refine brF ?_)); conv => whnf)
  refine ⟨a, x.lv, rfl, hga, rfl, ?_⟩
  ((repeat ((conv => whnf); first | refine brT ?_ | refine brF ?_)); conv => whnf)
  (refine ⟨fun h => ?_, fun h => ?_⟩ <;> rw [h])
  · ((repeat ((conv => whnf); first | refine brT ?_ | refine brF ?_)); conv => whnf)
    refine fin ?_
    simp [chB, h]
  · ((repeat ((conv => whnf); first | refine brT ?_ | refine brF ?_)); conv => whnf)
    refine ⟨a, x.lv, rfl, hga, rfl, ?_⟩
    ((repeat ((conv => whnf); first | refine brT ?_ | refine brF ?_)); conv => whnf)
    refine fin ?_
    simp [chB, h]
theorem link2_spec (ps : List Per) (us : List Uni) (s : Pr) (a b : Nat) (ha : a < ps.length) (hb : b < ps.length) :
    FSpec env.P 169 [.int .i64 (a : Int), .int .i64 (b : Int), .ref (famLV ps us), .ref s.lv] (.bool (sibB ps[a] ps[b] a b && ageX ps s.b a b)) := by
  refine FSpec_of_code env_ok (fn := Tryz.f169) Tryz.func169 rfl Tryz.call169 _ _ ?_
  ((repeat' (((repeat ((conv => whnf); first | refine brT ?_ | refine brF ?_)); conv => whnf); first | (refine And.intro ?_ ?_ <;> (intro h; rw [h]; revert h; intro _)) | (refine Exists.intro true (And.intro (a := drawB _ _ = true) (by kernel_rfl) ?_)) | (refine Exists.intro _ (And.intro (areFullSiblings_spec ps us a b ha hb) ?_)) | (refine Exists.intro _ (And.intro (isOfAge_spec ps us s.b a b ha hb) ?_)))); all_goals ((repeat ((conv => whnf); first | refine brT ?_ | refine brF ?_)); conv => whnf))
  all_goals (refine fin ?_; simp_all)
theorem link3_spec (ps : List Per) (us : List Uni) (a b : Nat) (hb : b < ps.length) :
    FSpec env.P 172 [.int .i64 (a : Int), .int .i64 (b : Int), .ref (.clos 168 [.ref (famLV ps us)])] (.bool (chB ps[b] a)) := by
  refine FSpec_of_code env_ok (fn := Tryz.f172) Tryz.func172 rfl Tryz.call172 _ _ ?_
  ((repeat ((conv => whnf); first | refine brT ?_ | refine brF ?_)); conv => whnf)
  refine ⟨_, link1_spec ps us b a hb, ?_⟩
  ((repeat ((conv => whnf); first | refine brT ?_ | refine brF ?_)); conv => whnf)
  exact fin rfl
theorem link4_spec (ps : List Per) (us : List Uni) (a b : Int) : FSpec env.P 173 [.int .i64 a, .int .i64 b, .ref (famLV ps us)] (.bool (us.any (unitedOf b a))) := by
  refine FSpec_of_code env_ok (fn := Tryz.f173) Tryz.func173 rfl Tryz.call173 _ _ ?_
  ((repeat ((conv => whnf); first | refine brT ?_ | refine brF ?_)); conv => whnf)
  refine ⟨_, isUnited_spec us b a, ?_⟩
  ((repeat ((conv => whnf); first | refine brT ?_ | refine brF ?_)); conv => whnf)
  exact fin rfl
theorem link5_spec (ps : List Per) (us : List Uni) (a b : Int) : FSpec env.P 174 [.int .i64 a, .int .i64 b, .ref (famLV ps us)] (.bool (us.any (unitedOf a b))) := by
  refine FSpec_of_code env_ok (fn := Tryz.f174) Tryz.func174 rfl Tryz.call174 _ _ ?_
  ((repeat ((conv => whnf); first | refine brT ?_ | refine brF ?_)); conv => whnf)
  refine ⟨_, isUnited_spec us a b, ?_⟩
  ((repeat ((conv => whnf); first | refine brT ?_ | refine brF ?_)); conv => whnf)
  exact fin rfl
end Go.Proofs.YtdhmnojnkgmmnaaGreat


namespace Go.Proofs.YtdhmnojnkgmmnaaGreat
open Go.Lg
set_option maxHeartbeats 3200000
set_option maxRecDepth 10000
set_option linter.unusedVariables false
set_option linter.unusedSimpArgs false

theorem linkOf_a (ps : List Per) (us : List Uni) (s : Pr) (hk : (eqI s.a 1 || eqI s.a 2) = true) : HSpec env.P 161 [famLV ps us, s.lv] [] (.clos 168 [.hp 0 0 []]) [.box (famLV ps us), .box s.lv, .box (.clos 168 [.hp 0 0 []])] := by
  refine HSpec_of_code (E := env.x [] 0) env_ok.x (fn := Tryz.f161) Tryz.func161 rfl Tryz.call161 _ _ _ _ ?_
  ((repeat ((conv => whnf); first | refine brT ?_ | refine brF ?_)); conv => whnf)
  (refine ⟨fun h1 => ?_, fun h1 => ?_⟩ <;> rw [h1])
  · ((repeat ((conv => whnf); first | refine brT ?_ | refine brF ?_)); conv => whnf)
    exact ⟨[.clos 168 [.hp 0 0 []]], rfl, rfl, .inl ⟨⟨rfl, trivial⟩, ⟨rfl, rfl, rfl, trivial⟩, rfl, rfl⟩⟩
  have h2 : eqI s.a 2 = true := by simpa [h1] using hk
  ((repeat ((conv => whnf); first | refine brT ?_ | refine brF ?_)); conv => whnf)
  rw [h2]
  ((repeat ((conv => whnf); first | refine brT ?_ | refine brF ?_)); conv => whnf)
  exact ⟨[.clos 168 [.hp 0 0 []]], rfl, rfl, .inl ⟨⟨rfl, trivial⟩, ⟨rfl, rfl, rfl, trivial⟩, rfl, rfl⟩⟩
theorem linkOf_b (ps : List Per) (us : List Uni) (s : Pr) (h1 : eqI s.a 1 = false) (h2 : eqI s.a 2 = false) (hk : (eqI s.a 3 || eqI s.a 4) = true) : HSpec env.P 161 [famLV ps us, s.lv] [] (.clos 169 [.hp 0 0 [], .hp 1 0 []]) [.box (famLV ps us), .box s.lv, .box (.clos 168 [.hp 0 0 []])] := by
  refine HSpec_of_code (E := env.x [] 0) env_ok.x (fn := Tryz.f161) Tryz.func161 rfl Tryz.call161 _ _ _ _ ?_
  ((repeat ((conv => whnf); first | refine brT ?_ | refine brF ?_)); conv => whnf)
  rw [h1]
  ((repeat ((conv => whnf); first | refine brT ?_ | refine brF ?_)); conv => whnf)
  rw [h2]
  ((repeat ((conv => whnf); first | refine brT ?_ | refine brF ?_)); conv => whnf)
  (refine ⟨fun h3 => ?_, fun h3 => ?_⟩ <;> rw [h3])
  · ((repeat ((conv => whnf); first | refine brT ?_ | refine brF ?_)); conv => whnf)
    exact ⟨[.clos 169 [.hp 0 0 [], .hp 1 0 []]], rfl, rfl, .inl ⟨⟨rfl, trivial⟩, ⟨rfl, rfl, rfl, trivial⟩, rfl, rfl⟩⟩
  have h4 : eqI s.a 4 = true := by simpa [h3] using hk
  ((repeat ((conv => whnf); first | refine brT ?_ | refine brF ?_)); conv => whnf)
  rw [h4]
  ((repeat ((conv => whnf); first | refine brT ?_ | refine brF ?_)); conv => whnf)
  exact ⟨[.clos 169 [.hp 0 0 [], .hp 1 0 []]], rfl, rfl, .inl ⟨⟨rfl, trivial⟩, ⟨rfl, rfl, rfl, trivial⟩, rfl, rfl⟩⟩
theorem linkOf_c (ps : List Per) (us : List Uni) (s : Pr) (h1 : eqI s.a 1 = false) (h2 : eqI s.a 2 = false) (h3 : eqI s.a 3 = false) (h4 : eqI s.a 4 = false) (hk : (eqI s.a 5 || eqI s.a 6) = true) : HSpec env.P 161 [famLV ps us, s.lv] [] (.clos 172 [.hp 2 0 []]) [.box (famLV ps us), .box s.lv, .box (.clos 168 [.hp 0 0 []])] := by
  refine HSpec_of_code (E := env.x [] 0) env_ok.x (fn := Tryz.f161) Tryz.func161 rfl Tryz.call161 _ _ _ _ ?_
  ((repeat ((conv => whnf); first | refine brT ?_ | refine brF ?_)); conv => whnf)
  rw [h1]
  ((repeat ((conv => whnf); first | refine brT ?_ | refine brF ?_)); conv => whnf)
  rw [h2]
  ((repeat ((conv => whnf); first | refine brT ?_ | refine brF ?_)); conv => whnf)
  rw [h3]
  ((repeat ((conv => whnf); first | refine brT ?_ | refine brF ?_)); conv => whnf)
  rw [h4]
  ((repeat ((conv => whnf); first | refine brT ?_ | refine brF ?_)); conv => whnf)
  (refine ⟨fun h5 => ?_, fun h5 => ?_⟩ <;> rw [h5])
  · ((repeat ((conv => whnf); first | refine brT ?_ | refine brF ?_)); conv => whnf)
    exact ⟨[.clos 172 [.hp 2 0 []]], rfl, rfl, .inl ⟨⟨rfl, trivial⟩, ⟨rfl, rfl, rfl, trivial⟩, rfl, rfl⟩⟩
  have h6 : eqI s.a 6 = true := by simpa [h5] using hk
  ((repeat ((conv => whnf); first | refine brT ?_ | refine brF ?_)); conv => whnf)
  rw [h6]
  ((repeat ((conv => whnf); first | refine brT ?_ | refine brF ?_)); conv => whnf)
  exact ⟨[.clos 172 [.hp 2 0 []]], rfl, rfl, .inl ⟨⟨rfl, trivial⟩, ⟨rfl, rfl, rfl, trivial⟩, rfl, rfl⟩⟩
theorem linkOf_d (ps : List Per) (us : List Uni) (s : Pr) (h1 : eqI s.a 1 = false) (h2 : eqI s.a 2 = false) (h3 : eqI s.a 3 = false) (h4 : eqI s.a 4 = false) (h5 : eqI s.a 5 = false) (h6 : eqI s.a 6 = false) (h7 : eqI s.a 7 = true) : HSpec env.P 161 [famLV ps us, s.lv] [] (.clos 173 [.hp 0 0 []]) [.box (famLV ps us), .box s.lv, .box (.clos 168 [.hp 0 0 []])] := by
  refine HSpec_of_code (E := env.x [] 0) env_ok.x (fn := Tryz.f161) Tryz.func161 rfl Tryz.call161 _ _ _ _ ?_
  ((repeat ((conv => whnf); first | refine brT ?_ | refine brF ?_)); conv => whnf)
  rw [h1]
  ((repeat ((conv => whnf); first | refine brT ?_ | refine brF ?_)); conv => whnf)
  rw [h2]
  ((repeat ((conv => whnf); first | refine brT ?_ | refine brF ?_)); conv => whnf)
  rw [h3]
  ((repeat ((conv => whnf); first | refine brT ?_ | refine brF ?_)); conv => whnf)
  rw [h4]
  ((repeat ((conv => whnf); first | refine brT ?_ | refine brF ?_)); conv => whnf)
  rw [h5]
  ((repeat ((conv => whnf); first | refine brT ?_ | refine brF ?_)); conv => whnf)
  rw [h6]
  ((repeat ((conv => whnf); first | refine brT ?_ | refine brF ?_)); conv => whnf)
  rw [h7]
  ((repeat ((conv => whnf); first | refine brT ?_ | refine brF ?_)); conv => whnf)
  exact ⟨[.clos 173 [.hp 0 0 []]], rfl, rfl, .inl ⟨⟨rfl, trivial⟩, ⟨rfl, rfl, rfl, trivial⟩, rfl, rfl⟩⟩
theorem linkOf_e (ps : List Per) (us : List Uni) (s : Pr) (h1 : eqI s.a 1 = false) (h2 : eqI s.a 2 = false) (h3 : eqI s.a 3 = false) (h4 : eqI s.a 4 = false) (h5 : eqI s.a 5 = false) (h6 : eqI s.a 6 = false) (h7 : eqI s.a 7 = false) : HSpec env.P 161 [famLV ps us, s.lv] [] (.clos 174 [.hp 0 0 []]) [.box (famLV ps us), .box s.lv, .box (.clos 168 [.hp 0 0 []])] := by
  refine HSpec_of_code (E := env.x [] 0) env_ok.x (fn := Tryz.f161) Tryz.func161 rfl Tryz.call161 _ _ _ _ ?_
  ((repeat ((conv => whnf); first | refine brT ?_ | refine brF ?_)); conv => whnf)
  rw [h1]
  ((repeat ((conv => whnf); first | refine brT ?_ | refine brF ?_)); conv => whnf)
  rw [h2]
  ((repeat ((conv => whnf); first | refine brT ?_ | refine brF ?_)); conv => whnf)
  rw [h3]
  ((repeat ((conv => whnf); first | refine brT ?_ | refine brF ?_)); conv => whnf)
  rw [h4]
  ((repeat ((conv => whnf); first | refine brT ?_ | refine brF ?_)); conv => whnf)
  rw [h5]
  ((repeat ((conv => whnf); first | refine brT ?_ | refine brF ?_)); conv => whnf)
  rw [h6]
  ((repeat ((conv => whnf); first | refine brT ?_ | refine brF ?_)); conv => whnf)
  rw [h7]
  ((repeat ((conv => whnf); first | refine brT ?_ | refine brF ?_)); conv => whnf)
  exact ⟨[.clos 174 [.hp 0 0 []]], rfl, rfl, .inl ⟨⟨rfl, trivial⟩, ⟨rfl, rfl, rfl, trivial⟩, rfl, rfl⟩⟩
end Go.Proofs.YtdhmnojnkgmmnaaGreat


namespace Go.Proofs.YtdhmnojnkgmmnaaGreat
open Go.Lg
set_option maxHeartbeats 6400000
set_option maxRecDepth 10000
set_option linter.unusedVariables false
set_option linter.unusedSimpArgs false

theorem reachOf_a (ps : List Per) (us : List Uni) (s : Pr) (hN : ps.length ≤ 40) (hk : (eqI s.a 1 || eqI s.a 2) = true) (V : Nat → Nat → Bool) (hV : ∀ (a b : Nat) (ha : a < ps.length) (hb : b < ps.length), V a b = (eqI ps[b].sex (sxOf s.a) && chB ps[a] b)) :
    HSpec env.P 126 [famLV ps us, s.lv] [] (.hs 0 ps.length) [.arr 170 1 ((setsP ps.length (doneP ps.length V ps.length 0)).map uLV)] := by
  refine HSpec_of_code (E := env.x [161, 121] 0) env_ok.x (fn := Tryz.f126) Tryz.func126 rfl Tryz.call126 _ _ _ _ ?_
  ((repeat ((conv => whnf); first | refine brT ?_ | refine brF ?_)); conv => whnf)
  refine ⟨[], _, _, _, _, linkOf_a ps us s hk, rfl, rfl, rfl, trivial, ?_⟩
  ((repeat ((conv => whnf); first | refine brT ?_ | refine brF ?_)); conv => whnf)
  intro hm
  have hm' : ps.length ≤ Go.maxLen := by simpa using hm
  rw [show (List.map Per.lv ps).length = ps.length by simp]
  ((repeat ((conv => whnf); first | refine brT ?_ | refine brF ?_)); conv => whnf)
  refine ⟨ps.length, rfl, rfl, by show 8 * ps.length ≤ _; omega, by unfold Go.maxLen; omega, rfl, by decide, ?_⟩
  have ez : List.replicate ps.length (LV.int .u64 0) = (setsP ps.length (doneP ps.length V 0 0)).map uLV := by rw [doneP_zero, ← setsP_zero]; simp [uLV]
  ((repeat ((conv => whnf); first | refine brT ?_ | refine brF ?_)); conv => whnf)
  rw [ez]
  intro _
  rw [show (List.map Per.lv ps).length = ps.length by simp]
  ((repeat ((conv => whnf); first | refine brT ?_ | refine brF ?_)); conv => whnf)
  refine loop_rule (α := Nat) (fun k => [(20, .int .i64 (k : Int))])
    (fun k => [.box (famLV ps us), .box s.lv, .box (famLV ps us), .box s.lv, .box (.clos 168 [.hp 2 0 []]), .arr 170 1 ((setsP ps.length (doneP ps.length V k 0)).map uLV)]) (fun k => ps.length - k) (fun k => k ≤ ps.length) 0 (Nat.zero_le _) ?_ ?_
  · refine ⟨?_, ⟨rfl, rfl, rfl, rfl, rfl, rfl, trivial⟩, rfl, rfl⟩
    ((repeat ((conv => whnf); refine ⟨rfl, ?_⟩)); trivial)
  intro k hk
  ((repeat ((conv => whnf); first | refine brT ?_ | refine brF ?_)); conv => whnf)
  (refine ⟨fun g1 => ?_, fun g1 => ?_⟩ <;> rw [g1])
  · have hlt : k < ps.length := by rw [ltI_t] at g1; omega
    have e1 := step_i hlt hm'
    ((repeat ((conv => whnf); first | refine brT ?_ | refine brF ?_)); conv => whnf)
    intro _
    rw [show (List.map Per.lv ps).length = ps.length by simp]
    ((repeat ((conv => whnf); first | refine brT ?_ | refine brF ?_)); conv => whnf)
    refine loop_rule (α := Nat) (fun i => [(26, .int .i64 (i : Int))])
      (fun i => [.box (famLV ps us), .box s.lv, .box (famLV ps us), .box s.lv, .box (.clos 168 [.hp 2 0 []]), .arr 170 1 ((setsP ps.length (doneP ps.length V k i)).map uLV)]) (fun i => ps.length - i) (fun i => i ≤ ps.length) 0 (Nat.zero_le _) ?_ ?_
    · refine ⟨?_, ⟨rfl, rfl, rfl, rfl, rfl, rfl, trivial⟩, rfl, rfl⟩
      ((repeat ((conv => whnf); refine ⟨rfl, ?_⟩)); trivial)
    intro i hi
    generalize hKK : kk _ = KK
    ((repeat ((conv => whnf); first | refine brT ?_ | refine brF ?_)); conv => whnf)
    (refine ⟨fun g2 => ?_, fun g2 => ?_⟩ <;> rw [g2])
    · have hil : i < ps.length := by rw [ltI_t] at g2; omega
      have e2 := step_i hil hm'
      have hv := hV k i hlt hil
      ((repeat ((conv => whnf); first | refine brT ?_ | refine brF ?_)); conv => whnf)
      refine ⟨i, ps[i].lv, rfl, by simp [hil], rfl, ?_⟩
      ((repeat ((conv => whnf); first | refine brT ?_ | refine brF ?_)); conv => whnf)
      refine ⟨true, by kernel_rfl, ?_⟩
      ((repeat ((conv => whnf); first | refine brT ?_ | refine brF ?_)); conv => whnf)
      refine ⟨_, sexOfStep_spec s, ?_⟩
      ((repeat ((conv => whnf); first | refine brT ?_ | refine brF ?_)); conv => whnf)
      (refine ⟨fun q => ?_, fun q => ?_⟩ <;> rw [q])
      · ((repeat ((conv => whnf); first | refine brT ?_ | refine brF ?_)); conv => whnf)
        refine ⟨_, link1_spec ps us k i hlt, ?_⟩
        ((repeat ((conv => whnf); first | refine brT ?_ | refine brF ?_)); conv => whnf)
        (refine ⟨fun q2 => ?_, fun q2 => ?_⟩ <;> rw [q2])
        · have hvt : V k i = true := by rw [hv, q, q2]; rfl
          have ep := doneP_put (V := V) (k := k) hil
          rw [hvt] at ep
          ((repeat ((conv => whnf); first | refine brT ?_ | refine brF ?_)); conv => whnf)
          refine ⟨by simp [setsP_len], rfl, k, rfl, by simpa [setsP_len] using hlt, ?_⟩
          ((repeat ((conv => whnf); first | refine brT ?_ | refine brF ?_)); conv => whnf)
          refine ⟨[5], _, _, _, _, add_elem ps.length (doneP ps.length V k i) k i hlt hil hN ps.length (by simp [setsP_len]), rfl, ?_⟩
          ((repeat ((conv => whnf); first | refine brT ?_ | refine brF ?_)); conv => whnf)
          refine ⟨rfl, rfl, trivial, ?_⟩
          ((repeat ((conv => whnf); first | refine brT ?_ | refine brF ?_)); conv => whnf)
          refine round_end (i + 1) hil (by omega) ⟨?_, ⟨rfl, rfl, rfl, rfl, rfl, congrArg (fun P => Blk.arr 170 1 ((setsP ps.length P).map uLV)) ep, trivial⟩, rfl, rfl⟩
          ((repeat ((conv => whnf); first | refine ⟨e2, ?_⟩ | refine ⟨rfl, ?_⟩)); trivial)
        · have hvf : V k i = false := by rw [hv, q, q2]; rfl
          ((repeat ((conv => whnf); first | refine brT ?_ | refine brF ?_)); conv => whnf)
          refine round_end (i + 1) hil (by omega) ⟨?_, ⟨rfl, rfl, rfl, rfl, rfl, congrArg (fun P => Blk.arr 170 1 ((setsP ps.length P).map uLV)) (doneP_skip hil hvf), trivial⟩, rfl, rfl⟩
          ((repeat ((conv => whnf); first | refine ⟨e2, ?_⟩ | refine ⟨rfl, ?_⟩)); trivial)
      · have hvf : V k i = false := by rw [hv, q]; rfl
        ((repeat ((conv => whnf); first | refine brT ?_ | refine brF ?_)); conv => whnf)
        refine round_end (i + 1) hil (by omega) ⟨?_, ⟨rfl, rfl, rfl, rfl, rfl, congrArg (fun P => Blk.arr 170 1 ((setsP ps.length P).map uLV)) (doneP_skip hil hvf), trivial⟩, rfl, rfl⟩
        ((repeat ((conv => whnf); first | refine ⟨e2, ?_⟩ | refine ⟨rfl, ?_⟩)); trivial)
    · have hil : i = ps.length := by rw [ltI_f] at g2; omega
      subst hil
      subst hKK
      ((repeat ((conv => whnf); first | refine brT ?_ | refine brF ?_)); conv => whnf)
      refine round_end (k + 1) hlt (by omega) ⟨?_, ⟨rfl, rfl, rfl, rfl, rfl, congrArg (fun P => Blk.arr 170 1 ((setsP ps.length P).map uLV)) (doneP_row ps.length V k), trivial⟩, rfl, rfl⟩
      ((repeat ((conv => whnf); first | refine ⟨e1, ?_⟩ | refine ⟨rfl, ?_⟩)); trivial)
  · have h3 : k = ps.length := by rw [ltI_f] at g1; omega
    subst h3
    ((repeat ((conv => whnf); first | refine brT ?_ | refine brF ?_)); conv => whnf)
    exact ⟨[.hs 0 ps.length], rfl, rfl, .inr ⟨[.old 5], ⟨rfl, rfl, trivial⟩, ⟨rfl, rfl, trivial⟩, rfl⟩⟩
end Go.Proofs.YtdhmnojnkgmmnaaGreat


namespace Go.Proofs.YtdhmnojnkgmmnaaGreat
open Go.Lg
set_option maxHeartbeats 6400000
set_option maxRecDepth 10000
set_option linter.unusedVariables false
set_option linter.unusedSimpArgs false

theorem reachOf_b (ps : List Per) (us : List Uni) (s : Pr) (hN : ps.length ≤ 40) (h1 : eqI s.a 1 = false) (h2 : eqI s.a 2 = false) (hk : (eqI s.a 3 || eqI s.a 4) = true) (V : Nat → Nat → Bool) (hV : ∀ (a b : Nat) (ha : a < ps.length) (hb : b < ps.length), V a b = (eqI ps[b].sex (sxOf s.a) && (sibB ps[a] ps[b] a b && ageX ps s.b a b))) :
    HSpec env.P 126 [famLV ps us, s.lv] [] (.hs 0 ps.length) [.arr 170 1 ((setsP ps.length (doneP ps.length V ps.length 0)).map uLV)] := by
  refine HSpec_of_code (E := env.x [161, 121] 0) env_ok.x (fn := Tryz.f126) Tryz.func126 rfl Tryz.call126 _ _ _ _ ?_
  ((repeat ((conv => whnf); first | refine brT ?_ | refine brF ?_)); conv => whnf)
  refine ⟨[], _, _, _, _, linkOf_b ps us s h1 h2 hk, rfl, rfl, rfl, trivial, ?_⟩
  ((repeat ((conv => whnf); first | refine brT ?_ | refine brF ?_)); conv => whnf)
  intro hm
  have hm' : ps.length ≤ Go.maxLen := by simpa using hm
  rw [show (List.map Per.lv ps).length = ps.length by simp]
  ((repeat ((conv => whnf); first | refine brT ?_ | refine brF ?_)); conv => whnf)
  refine ⟨ps.length, rfl, rfl, by show 8 * ps.length ≤ _; omega, by unfold Go.maxLen; omega, rfl, by decide, ?_⟩
  have ez : List.replicate ps.length (LV.int .u64 0) = (setsP ps.length (doneP ps.length V 0 0)).map uLV := by rw [doneP_zero, ← setsP_zero]; simp [uLV]
  ((repeat ((conv => whnf); first | refine brT ?_ | refine brF ?_)); conv => whnf)
  rw [ez]
  intro _
  rw [show (List.map Per.lv ps).length = ps.length by simp]
  ((repeat ((conv => whnf); first | refine brT ?_ | refine brF ?_)); conv => whnf)
  refine loop_rule (α := Nat) (fun k => [(20, .int .i64 (k : Int))])
    (fun k => [.box (famLV ps us), .box s.lv, .box (famLV ps us), .box s.lv, .box (.clos 168 [.hp 2 0 []]), .arr 170 1 ((setsP ps.length (doneP ps.length V k 0)).map uLV)]) (fun k => ps.length - k) (fun k => k ≤ ps.length) 0 (Nat.zero_le _) ?_ ?_
  · refine ⟨?_, ⟨rfl, rfl, rfl, rfl, rfl, rfl, trivial⟩, rfl, rfl⟩
    ((repeat ((conv => whnf); refine ⟨rfl, ?_⟩)); trivial)
  intro k hk
  ((repeat ((conv => whnf); first | refine brT ?_ | refine brF ?_)); conv => whnf)
  (refine ⟨fun g1 => ?_, fun g1 => ?_⟩ <;> rw [g1])
  · have hlt : k < ps.length := by rw [ltI_t] at g1; omega
    have e1 := step_i hlt hm'
    ((repeat ((conv => whnf); first | refine brT ?_ | refine brF ?_)); conv => whnf)
    intro _
    rw [show (List.map Per.lv ps).length = ps.length by simp]
    ((repeat ((conv => whnf); first | refine brT ?_ | refine brF ?_)); conv => whnf)
    refine loop_rule (α := Nat) (fun i => [(26, .int .i64 (i : Int))])
      (fun i => [.box (famLV ps us), .box s.lv, .box (famLV ps us), .box s.lv, .box (.clos 168 [.hp 2 0 []]), .arr 170 1 ((setsP ps.length (doneP ps.length V k i)).map uLV)]) (fun i => ps.length - i) (fun i => i ≤ ps.length) 0 (Nat.zero_le _) ?_ ?_
    · refine ⟨?_, ⟨rfl, rfl, rfl, rfl, rfl, rfl, trivial⟩, rfl, rfl⟩
      ((repeat ((conv => whnf); refine ⟨rfl, ?_⟩)); trivial)
    intro i hi
    generalize hKK : kk _ = KK
    ((repeat ((conv => whnf); first | refine brT ?_ | refine brF ?_)); conv => whnf)
    (refine ⟨fun g2 => ?_, fun g2 => ?_⟩ <;> rw [g2])
    · have hil : i < ps.length := by rw [ltI_t] at g2; omega
      have e2 := step_i hil hm'
      have hv := hV k i hlt hil
      ((repeat ((conv => whnf); first | refine brT ?_ | refine brF ?_)); conv => whnf)
      refine ⟨i, ps[i].lv, rfl, by simp [hil], rfl, ?_⟩
      ((repeat ((conv => whnf); first | refine brT ?_ | refine brF ?_)); conv => whnf)
      refine ⟨true, by kernel_rfl, ?_⟩
      ((repeat ((conv => whnf); first | refine brT ?_ | refine brF ?_)); conv => whnf)
      refine ⟨_, sexOfStep_spec s, ?_⟩
      ((repeat ((conv => whnf); first | refine brT ?_ | refine brF ?_)); conv => whnf)
      (refine ⟨fun q => ?_, fun q => ?_⟩ <;> rw [q])
      · ((repeat ((conv => whnf); first | refine brT ?_ | refine brF ?_)); conv => whnf)
        refine ⟨_, link2_spec ps us s k i hlt hil, ?_⟩
        ((repeat ((conv => whnf); first | refine brT ?_ | refine brF ?_)); conv => whnf)
        (refine ⟨fun q2 => ?_, fun q2 => ?_⟩ <;> rw [q2])
        · have hvt : V k i = true := by rw [hv, q, q2]; rfl
          have ep := doneP_put (V := V) (k := k) hil
          rw [hvt] at ep
          ((repeat ((conv => whnf); first | refine brT ?_ | refine brF ?_)); conv => whnf)
          refine ⟨by simp [setsP_len], rfl, k, rfl, by simpa [setsP_len] using hlt, ?_⟩
          ((repeat ((conv => whnf); first | refine brT ?_ | refine brF ?_)); conv => whnf)
          refine ⟨[5], _, _, _, _, add_elem ps.length (doneP ps.length V k i) k i hlt hil hN ps.length (by simp [setsP_len]), rfl, ?_⟩
          ((repeat ((conv => whnf); first | refine brT ?_ | refine brF ?_)); conv => whnf)
          refine ⟨rfl, rfl, trivial, ?_⟩
          ((repeat ((conv => whnf); first | refine brT ?_ | refine brF ?_)); conv => whnf)
          refine round_end (i + 1) hil (by omega) ⟨?_, ⟨rfl, rfl, rfl, rfl, rfl, congrArg (fun P => Blk.arr 170 1 ((setsP ps.length P).map uLV)) ep, trivial⟩, rfl, rfl⟩
          ((repeat ((conv => whnf); first | refine ⟨e2, ?_⟩ | refine ⟨rfl, ?_⟩)); trivial)
        · have hvf : V k i = false := by rw [hv, q, q2]; rfl
          ((repeat ((conv => whnf); first | refine brT ?_ | refine brF ?_)); conv => whnf)
          refine round_end (i + 1) hil (by omega) ⟨?_, ⟨rfl, rfl, rfl, rfl, rfl, congrArg (fun P => Blk.arr 170 1 ((setsP ps.length P).map uLV)) (doneP_skip hil hvf), trivial⟩, rfl, rfl⟩
          ((repeat ((conv => whnf); first | refine ⟨e2, ?_⟩ | refine ⟨rfl, ?_⟩)); trivial)
      · have hvf : V k i = false := by rw [hv, q]; rfl
        ((repeat ((conv => whnf); first | refine brT ?_ | refine brF ?_)); conv => whnf)
        refine round_end (i + 1) hil (by omega) ⟨?_, ⟨rfl, rfl, rfl, rfl, rfl, congrArg (fun P => Blk.arr 170 1 ((setsP ps.length P).map uLV)) (doneP_skip hil hvf), trivial⟩, rfl, rfl⟩
        ((repeat ((conv => whnf); first | refine ⟨e2, ?_⟩ | refine ⟨rfl, ?_⟩)); trivial)
    · have hil : i = ps.length := by rw [ltI_f] at g2; omega
      subst hil
      subst hKK
      ((repeat ((conv => whnf); first | refine brT ?_ | refine brF ?_)); conv => whnf)
      refine round_end (k + 1) hlt (by omega) ⟨?_, ⟨rfl, rfl, rfl, rfl, rfl, congrArg (fun P => Blk.arr 170 1 ((setsP ps.length P).map uLV)) (doneP_row ps.length V k), trivial⟩, rfl, rfl⟩
      ((repeat ((conv => whnf); first | refine ⟨e1, ?_⟩ | refine ⟨rfl, ?_⟩)); trivial)
  · have h3 : k = ps.length := by rw [ltI_f] at g1; omega
    subst h3
    ((repeat ((conv => whnf); first | refine brT ?_ | refine brF ?_)); conv => whnf)
    exact ⟨[.hs 0 ps.length], rfl, rfl, .inr ⟨[.old 5], ⟨rfl, rfl, trivial⟩, ⟨rfl, rfl, trivial⟩, rfl⟩⟩
end Go.Proofs.YtdhmnojnkgmmnaaGreat


namespace Go.Proofs.YtdhmnojnkgmmnaaGreat
open Go.Lg
set_option maxHeartbeats 6400000
set_option maxRecDepth 10000
set_option linter.unusedVariables false
set_option linter.unusedSimpArgs false

theorem reachOf_c (ps : List Per) (us : List Uni) (s : Pr) (hN : ps.length ≤ 40) (h1 : eqI s.a 1 = false) (h2 : eqI s.a 2 = false) (h3 : eqI s.a 3 = false) (h4 : eqI s.a 4 = false) (hk : (eqI s.a 5 || eqI s.a 6) = true) (V : Nat → Nat → Bool) (hV : ∀ (a b : Nat) (ha : a < ps.length) (hb : b < ps.length), V a b = (eqI ps[b].sex (sxOf s.a) && chB ps[b] a)) :
    HSpec env.P 126 [famLV ps us, s.lv] [] (.hs 0 ps.length) [.arr 170 1 ((setsP ps.length (doneP ps.length V ps.length 0)).map uLV)] := by
  refine HSpec_of_code (E := env.x [161, 121] 0) env_ok.x (fn := Tryz.f126) Tryz.func126 rfl Tryz.call126 _ _ _ _ ?_
  ((repeat ((conv => whnf); first | refine brT ?_ | refine brF ?_)); conv => whnf)
  refine ⟨[], _, _, _, _, linkOf_c ps us s h1 h2 h3 h4 hk, rfl, rfl, rfl, trivial, ?_⟩
  ((repeat ((conv => whnf); first | refine brT ?_ | refine brF ?_)); conv => whnf)
  intro hm
  have hm' : ps.length ≤ Go.maxLen := by simpa using hm
  rw [show (List.map Per.lv ps).length = ps.length by simp]
  ((repeat ((conv => whnf); first | refine brT ?_ | refine brF ?_)); conv => whnf)
  refine ⟨ps.length, rfl, rfl, by show 8 * ps.length ≤ _; omega, by unfold Go.maxLen; omega, rfl, by decide, ?_⟩
  have ez : List.replicate ps.length (LV.int .u64 0) = (setsP ps.length (doneP ps.length V 0 0)).map uLV := by rw [doneP_zero, ← setsP_zero]; simp [uLV]
  ((repeat ((conv => whnf); first | refine brT ?_ | refine brF ?_)); conv => whnf)
  rw [ez]
  intro _
  rw [show (List.map Per.lv ps).length = ps.length by simp]
  ((repeat ((conv => whnf); first | refine brT ?_ | refine brF ?_)); conv => whnf)
  refine loop_rule (α := Nat) (fun k => [(20, .int .i64 (k : Int))])
    (fun k => [.box (famLV ps us), .box s.lv, .box (famLV ps us), .box s.lv, .box (.clos 168 [.hp 2 0 []]), .arr 170 1 ((setsP ps.length (doneP ps.length V k 0)).map uLV)]) (fun k => ps.length - k) (fun k => k ≤ ps.length) 0 (Nat.zero_le _) ?_ ?_
  · refine ⟨?_, ⟨rfl, rfl, rfl, rfl, rfl, rfl, trivial⟩, rfl, rfl⟩
    ((repeat ((conv => whnf); refine ⟨rfl, ?_⟩)); trivial)
  intro k hk
  ((repeat ((conv => whnf); first | refine brT ?_ | refine brF ?_)); conv => whnf)
  (refine ⟨fun g1 => ?_, fun g1 => ?_⟩ <;> rw [g1])
  · have hlt : k < ps.length := by rw [ltI_t] at g1; omega
    have e1 := step_i hlt hm'
    ((repeat ((conv => whnf); first | refine brT ?_ | refine brF ?_)); conv => whnf)
    intro _
    rw [show (List.map Per.lv ps).length = ps.length by simp]
    ((repeat ((conv => whnf); first | refine brT ?_ | refine brF ?_)); conv => whnf)
    refine loop_rule (α := Nat) (fun i => [(26, .int .i64 (i : Int))])
      (fun i => [.box (famLV ps us), .box s.lv, .box (famLV ps us), .box s.lv, .box (.clos 168 [.hp 2 0 []]), .arr 170 1 ((setsP ps.length (doneP ps.length V k i)).map uLV)]) (fun i => ps.length - i) (fun i => i ≤ ps.length) 0 (Nat.zero_le _) ?_ ?_
    · refine ⟨?_, ⟨rfl, rfl, rfl, rfl, rfl, rfl, trivial⟩, rfl, rfl⟩
      ((repeat ((conv => whnf); refine ⟨rfl, ?_⟩)); trivial)
    intro i hi
    generalize hKK : kk _ = KK
    ((repeat ((conv => whnf); first | refine brT ?_ | refine brF ?_)); conv => whnf)
    (refine ⟨fun g2 => ?_, fun g2 => ?_⟩ <;> rw [g2])
    · have hil : i < ps.length := by rw [ltI_t] at g2; omega
      have e2 := step_i hil hm'
      have hv := hV k i hlt hil
      ((repeat ((conv => whnf); first | refine brT ?_ | refine brF ?_)); conv => whnf)
      refine ⟨i, ps[i].lv, rfl, by simp [hil], rfl, ?_⟩
      ((repeat ((conv => whnf); first | refine brT ?_ | refine brF ?_)); conv => whnf)
      refine ⟨true, by kernel_rfl, ?_⟩
      ((repeat ((conv => whnf); first | refine brT ?_ | refine brF ?_)); conv => whnf)
      refine ⟨_, sexOfStep_spec s, ?_⟩
      ((repeat ((conv => whnf); first | refine brT ?_ | refine brF ?_)); conv => whnf)
      (refine ⟨fun q => ?_, fun q => ?_⟩ <;> rw [q])
      · ((repeat ((conv => whnf); first | refine brT ?_ | refine brF ?_)); conv => whnf)
        refine ⟨_, link3_spec ps us k i hil, ?_⟩
        ((repeat ((conv => whnf); first | refine brT ?_ | refine brF ?_)); conv => whnf)
        (refine ⟨fun q2 => ?_, fun q2 => ?_⟩ <;> rw [q2])
        · have hvt : V k i = true := by rw [hv, q, q2]; rfl
          have ep := doneP_put (V := V) (k := k) hil
          rw [hvt] at ep
          ((repeat ((conv => whnf); first | refine brT ?_ | refine brF ?_)); conv => whnf)
          refine ⟨by simp [setsP_len], rfl, k, rfl, by simpa [setsP_len] using hlt, ?_⟩
          ((repeat ((conv => whnf); first | refine brT ?_ | refine brF ?_)); conv => whnf)
          refine ⟨[5], _, _, _, _, add_elem ps.length (doneP ps.length V k i) k i hlt hil hN ps.length (by simp [setsP_len]), rfl, ?_⟩
          ((repeat ((conv => whnf); first | refine brT ?_ | refine brF ?_)); conv => whnf)
          refine ⟨rfl, rfl, trivial, ?_⟩
          ((repeat ((conv => whnf); first | refine brT ?_ | refine brF ?_)); conv => whnf)
          refine round_end (i + 1) hil (by omega) ⟨?_, ⟨rfl, rfl, rfl, rfl, rfl, congrArg (fun P => Blk.arr 170 1 ((setsP ps.length P).map uLV)) ep, trivial⟩, rfl, rfl⟩
          ((repeat ((conv => whnf); first | refine ⟨e2, ?_⟩ | refine ⟨rfl, ?_⟩)); trivial)
        · have hvf : V k i = false := by rw [hv, q, q2]; rfl
          ((repeat ((conv => whnf); first | refine brT ?_ | refine brF ?_)); conv => whnf)
          refine round_end (i + 1) hil (by omega) ⟨?_, ⟨rfl, rfl, rfl, rfl, rfl, congrArg (fun P => Blk.arr 170 1 ((setsP ps.length P).map uLV)) (doneP_skip hil hvf), trivial⟩, rfl, rfl⟩
          ((repeat ((conv => whnf); first | refine ⟨e2, ?_⟩ | refine ⟨rfl, ?_⟩)); trivial)
      · have hvf : V k i = false := by rw [hv, q]; rfl
        ((repeat ((conv => whnf); first | refine brT ?_ | refine brF ?_)); conv => whnf)
        refine round_end (i + 1) hil (by omega) ⟨?_, ⟨rfl, rfl, rfl, rfl, rfl, congrArg (fun P => Blk.arr 170 1 ((setsP ps.length P).map uLV)) (doneP_skip hil hvf), trivial⟩, rfl, rfl⟩
        ((repeat ((conv => whnf); first | refine ⟨e2, ?_⟩ | refine ⟨rfl, ?_⟩)); trivial)
    · have hil : i = ps.length := by rw [ltI_f] at g2; omega
      subst hil
      subst hKK
      ((repeat ((conv => whnf); first | refine brT ?_ | refine brF ?_)); conv => whnf)
      refine round_end (k + 1) hlt (by omega) ⟨?_, ⟨rfl, rfl, rfl, rfl, rfl, congrArg (fun P => Blk.arr 170 1 ((setsP ps.length P).map uLV)) (doneP_row ps.length V k), trivial⟩, rfl, rfl⟩
      ((repeat ((conv => whnf); first | refine ⟨e1, ?_⟩ | refine ⟨rfl, ?_⟩)); trivial)
  · have h3 : k = ps.length := by rw [ltI_f] at g1; omega
    subst h3
    ((repeat ((conv => whnf); first | refine brT ?_ | refine brF ?_)); conv => whnf)
    exact ⟨[.hs 0 ps.length], rfl, rfl, .inr ⟨[.old 5], ⟨rfl, rfl, trivial⟩, ⟨rfl, rfl, trivial⟩, rfl⟩⟩
end Go.Proofs.YtdhmnojnkgmmnaaGreat


namespace Go.Proofs.YtdhmnojnkgmmnaaGreat
open Go.Lg
set_option maxHeartbeats 6400000
set_option maxRecDepth 10000
set_option linter.unusedVariables false
set_option linter.unusedSimpArgs false

theorem reachOf_d (ps : List Per) (us : List Uni) (s : Pr) (hN : ps.length ≤ 40) (h1 : eqI s.a 1 = false) (h2 : eqI s.a 2 = false) (h3 : eqI s.a 3 = false) (h4 : eqI s.a 4 = false) (h5 : eqI s.a 5 = false) (h6 : eqI s.a 6 = false) (h7 : eqI s.a 7 = true) (V : Nat → Nat → Bool) (hV : ∀ (a b : Nat) (ha : a < ps.length) (hb : b < ps.length), V a b = (eqI ps[b].sex (sxOf s.a) && us.any (unitedOf b a))) :
    HSpec env.P 126 [famLV ps us, s.lv] [] (.hs 0 ps.length) [.arr 170 1 ((setsP ps.length (doneP ps.length V ps.length 0)).map uLV)] := by
  refine HSpec_of_code (E := env.x [161, 121] 0) env_ok.x (fn := Tryz.f126) Tryz.func126 rfl Tryz.call126 _ _ _ _ ?_
  ((repeat ((conv => whnf); first | refine brT ?_ | refine brF ?_)); conv => whnf)
  refine ⟨[], _, _, _, _, linkOf_d ps us s h1 h2 h3 h4 h5 h6 h7, rfl, rfl, rfl, trivial, ?_⟩
  ((repeat ((conv => whnf); first | refine brT ?_ | refine brF ?_)); conv => whnf)
  intro hm
  have hm' : ps.length ≤ Go.maxLen := by simpa using hm
  rw [show (List.map Per.lv ps).length = ps.length by simp]
  ((repeat ((conv => whnf); first | refine brT ?_ | refine brF ?_)); conv => whnf)
  refine ⟨ps.length, rfl, rfl, by show 8 * ps.length ≤ _; omega, by unfold Go.maxLen; omega, rfl, by decide, ?_⟩
  have ez : List.replicate ps.length (LV.int .u64 0) = (setsP ps.length (doneP ps.length V 0 0)).map uLV := by rw [doneP_zero, ← setsP_zero]; simp [uLV]
  ((repeat ((conv => whnf); first | refine brT ?_ | refine brF ?_)); conv => whnf)
  rw [ez]
  intro _
  rw [show (List.map Per.lv ps).length = ps.length by simp]
  ((repeat ((conv => whnf); first | refine brT ?_ | refine brF ?_)); conv => whnf)
  refine loop_rule (α := Nat) (fun k => [(20, .int .i64 (k : Int))])
    (fun k => [.box (famLV ps us), .box s.lv, .box (famLV ps us), .box s.lv, .box (.clos 168 [.hp 2 0 []]), .arr 170 1 ((setsP ps.length (doneP ps.length V k 0)).map uLV)]) (fun k => ps.length - k) (fun k => k ≤ ps.length) 0 (Nat.zero_le _) ?_ ?_
  · refine ⟨?_, ⟨rfl, rfl, rfl, rfl, rfl, rfl, trivial⟩, rfl, rfl⟩
    ((repeat ((conv => whnf); refine ⟨rfl, ?_⟩)); trivial)
  intro k hk
  ((repeat ((conv => whnf); first | refine brT ?_ | refine brF ?_)); conv => whnf)
  (refine ⟨fun g1 => ?_, fun g1 => ?_⟩ <;> rw [g1])
  · have hlt : k < ps.length := by rw [ltI_t] at g1; omega
    have e1 := step_i hlt hm'
    ((repeat ((conv => whnf); first | refine brT ?_ | refine brF ?_)); conv => whnf)
    intro _
    rw [show (List.map Per.lv ps).length = ps.length by simp]
    ((repeat ((conv => whnf); first | refine brT ?_ | refine brF ?_)); conv => whnf)
    refine loop_rule (α := Nat) (fun i => [(26, .int .i64 (i : Int))])
      (fun i => [.box (famLV ps us), .box s.lv, .box (famLV ps us), .box s.lv, .box (.clos 168 [.hp 2 0 []]), .arr 170 1 ((setsP ps.length (doneP ps.length V k i)).map uLV)]) (fun i => ps.length - i) (fun i => i ≤ ps.length) 0 (Nat.zero_le _) ?_ ?_
    · refine ⟨?_, ⟨rfl, rfl, rfl, rfl, rfl, rfl, trivial⟩, rfl, rfl⟩
      ((repeat ((conv => whnf); refine ⟨rfl, ?_⟩)); trivial)
    intro i hi
    generalize hKK : kk _ = KK
    ((repeat ((conv => whnf); first | refine brT ?_ | refine brF ?_)); conv => whnf)
    (refine ⟨fun g2 => ?_, fun g2 => ?_⟩ <;> rw [g2])
    · have hil : i < ps.length := by rw [ltI_t] at g2; omega
      have e2 := step_i hil hm'
      have hv := hV k i hlt hil
      ((repeat ((conv => whnf); first | refine brT ?_ | refine brF ?_)); conv => whnf)
      refine ⟨i, ps[i].lv, rfl, by simp [hil], rfl, ?_⟩
      ((repeat ((conv => whnf); first | refine brT ?_ | refine brF ?_)); conv => whnf)
      refine ⟨true, by kernel_rfl, ?_⟩
      ((repeat ((conv => whnf); first | refine brT ?_ | refine brF ?_)); conv => whnf)
      refine ⟨_, sexOfStep_spec s, ?_⟩
      ((repeat ((conv => whnf); first | refine brT ?_ | refine brF ?_)); conv => whnf)
      (refine ⟨fun q => ?_, fun q => ?_⟩ <;> rw [q])
      · ((repeat ((conv => whnf); first | refine brT ?_ | refine brF ?_)); conv => whnf)
        refine ⟨_, link4_spec ps us k i, ?_⟩
        ((repeat ((conv => whnf); first | refine brT ?_ | refine brF ?_)); conv => whnf)
        (refine ⟨fun q2 => ?_, fun q2 => ?_⟩ <;> rw [q2])
        · have hvt : V k i = true := by rw [hv, q, q2]; rfl
          have ep := doneP_put (V := V) (k := k) hil
          rw [hvt] at ep
          ((repeat ((conv => whnf); first | refine brT ?_ | refine brF ?_)); conv => whnf)
          refine ⟨by simp [setsP_len], rfl, k, rfl, by simpa [setsP_len] using hlt, ?_⟩
          ((repeat ((conv => whnf); first | refine brT ?_ | refine brF ?_)); conv => whnf)
          refine ⟨[5], _, _, _, _, add_elem ps.length (doneP ps.length V k i) k i hlt hil hN ps.length (by simp [setsP_len]), rfl, ?_⟩
          ((repeat ((conv => whnf); first | refine brT ?_ | refine brF ?_)); conv => whnf)
          refine ⟨rfl, rfl, trivial, ?_⟩
          ((repeat ((conv => whnf); first | refine brT ?_ | refine brF ?_)); conv => whnf)
          refine round_end (i + 1) hil (by omega) ⟨?_, ⟨rfl, rfl, rfl, rfl, rfl, congrArg (fun P => Blk.arr 170 1 ((setsP ps.length P).map uLV)) ep, trivial⟩, rfl, rfl⟩
          ((repeat ((conv => whnf); first | refine ⟨e2, ?_⟩ | refine ⟨rfl, ?_⟩)); trivial)
        · have hvf : V k i = false := by rw [hv, q, q2]; rfl
          ((repeat ((conv => whnf); first | refine brT ?_ | refine brF ?_)); conv => whnf)
          refine round_end (i + 1) hil (by omega) ⟨?_, ⟨rfl, rfl, rfl, rfl, rfl, congrArg (fun P => Blk.arr 170 1 ((setsP ps.length P).map uLV)) (doneP_skip hil hvf), trivial⟩, rfl, rfl⟩
          ((repeat ((conv => whnf); first | refine ⟨e2, ?_⟩ | refine ⟨rfl, ?_⟩)); trivial)
      · have hvf : V k i = false := by rw [hv, q]; rfl
        ((repeat ((conv => whnf); first | refine brT ?_ | refine brF ?_)); conv => whnf)
        refine round_end (i + 1) hil (by omega) ⟨?_, ⟨rfl, rfl, rfl, rfl, rfl, congrArg (fun P => Blk.arr 170 1 ((setsP ps.length P).map uLV)) (doneP_skip hil hvf), trivial⟩, rfl, rfl⟩
        ((repeat ((conv => whnf); first | refine ⟨e2, ?_⟩ | refine ⟨rfl, ?_⟩)); trivial)
    · have hil : i = ps.length := by rw [ltI_f] at g2; omega
      subst hil
      subst hKK
      ((repeat ((conv => whnf); first | refine brT ?_ | refine brF ?_)); conv => whnf)
      refine round_end (k + 1) hlt (by omega) ⟨?_, ⟨rfl, rfl, rfl, rfl, rfl, congrArg (fun P => Blk.arr 170 1 ((setsP ps.length P).map uLV)) (doneP_row ps.length V k), trivial⟩, rfl, rfl⟩
      ((repeat ((conv => whnf); first | refine ⟨e1, ?_⟩ | refine ⟨rfl, ?_⟩)); trivial)
  · have h3 : k = ps.length := by rw [ltI_f] at g1; omega
    subst h3
    ((repeat ((conv => whnf); first | refine brT ?_ | refine brF ?_)); conv => whnf)
    exact ⟨[.hs 0 ps.length], rfl, rfl, .inr ⟨[.old 5], ⟨rfl, rfl, trivial⟩, ⟨rfl, rfl, trivial⟩, rfl⟩⟩
end Go.Proofs.YtdhmnojnkgmmnaaGreat


namespace Go.Proofs.YtdhmnojnkgmmnaaGreat
open Go.Lg
set_option maxHeartbeats 6400000
set_option maxRecDepth 10000
set_option linter.unusedVariables false
set_option linter.unusedSimpArgs false

theorem reachOf_e (ps : List Per) (us : List Uni) (s : Pr) (hN : ps.length ≤ 40) (h1 : eqI s.a 1 = false) (h2 : eqI s.a 2 = false) (h3 : eqI s.a 3 = false) (h4 : eqI s.a 4 = false) (h5 : eqI s.a 5 = false) (h6 : eqI s.a 6 = false) (h7 : eqI s.a 7 = false) (V : Nat → Nat → Bool) (hV : ∀ (a b : Nat) (ha : a < ps.length) (hb : b < ps.length), V a b = (eqI ps[b].sex (sxOf s.a) && us.any (unitedOf a b))) :
    HSpec env.P 126 [famLV ps us, s.lv] [] (.hs 0 ps.length) [.arr 170 1 ((setsP ps.length (doneP ps.length V ps.length 0)).map uLV)] := by
  refine HSpec_of_code (E := env.x [161, 121] 0) env_ok.x (fn := Tryz.f126) Tryz.func126 rfl Tryz.call126 _ _ _ _ ?_
  ((repeat ((conv => whnf); first | refine brT ?_ | refine brF ?_)); conv => whnf)
  refine ⟨[], _, _, _, _, linkOf_e ps us s h1 h2 h3 h4 h5 h6 h7, rfl, rfl, rfl, trivial, ?_⟩
  ((repeat ((conv => whnf); first | refine brT ?_ | refine brF ?_)); conv => whnf)
  intro hm
  have hm' : ps.length ≤ Go.maxLen := by simpa using hm
  rw [show (List.map Per.lv ps).length = ps.length by simp]
  ((repeat ((conv => whnf); first | refine brT ?_ | refine brF ?_)); conv => whnf)
  refine ⟨ps.length, rfl, rfl, by show 8 * ps.length ≤ _; omega, by unfold Go.maxLen; omega, rfl, by decide, ?_⟩
  have ez : List.replicate ps.length (LV.int .u64 0) = (setsP ps.length (doneP ps.length V 0 0)).map uLV := by rw [doneP_zero, ← setsP_zero]; simp [uLV]
  ((repeat ((conv => whnf); first | refine brT ?_ | refine brF ?_)); conv => whnf)
  rw [ez]
  intro _
  rw [show (List.map Per.lv ps).length = ps.length by simp]
  ((repeat ((conv => whnf); first | refine brT ?_ | refine brF ?_)); conv => whnf)
  refine loop_rule (α := Nat) (fun k => [(20, .int .i64 (k : Int))])
    (fun k => [.box (famLV ps us), .box s.lv, .box (famLV ps us), .box s.lv, .box (.clos 168 [.hp 2 0 []]), .arr 170 1 ((setsP ps.length (doneP ps.length V k 0)).map uLV)]) (fun k => ps.length - k) (fun k => k ≤ ps.length) 0 (Nat.zero_le _) ?_ ?_
  · refine ⟨?_, ⟨rfl, rfl, rfl, rfl, rfl, rfl, trivial⟩, rfl, rfl⟩
    ((repeat ((conv => whnf); refine ⟨rfl, ?_⟩)); trivial)
  intro k hk
  ((repeat ((conv => whnf); first | refine brT ?_ | refine brF ?_)); conv => whnf)
  (refine ⟨fun g1 => ?_, fun g1 => ?_⟩ <;> rw [g1])
  · have hlt : k < ps.length := by rw [ltI_t] at g1; omega
    have e1 := step_i hlt hm'
    ((repeat ((conv => whnf); first | refine brT ?_ | refine brF ?_)); conv => whnf)
    intro _
    rw [show (List.map Per.lv ps).length = ps.length by simp]
    ((repeat ((conv => whnf); first | refine brT ?_ | refine brF ?_)); conv => whnf)
    refine loop_rule (α := Nat) (fun i => [(26, .int .i64 (i : Int))])
      (fun i => [.box (famLV ps us), .box s.lv, .box (famLV ps us), .box s.lv, .box (.clos 168 [.hp 2 0 []]), .arr 170 1 ((setsP ps.length (doneP ps.length V k i)).map uLV)]) (fun i => ps.length - i) (fun i => i ≤ ps.length) 0 (Nat.zero_le _) ?_ ?_
    · refine ⟨?_, ⟨rfl, rfl, rfl, rfl, rfl, rfl, trivial⟩, rfl, rfl⟩
      ((repeat ((conv => whnf); refine ⟨rfl, ?_⟩)); trivial)
    intro i hi
    generalize hKK : kk _ = KK
    ((repeat ((conv => whnf); first | refine brT ?_ | refine brF ?_)); conv => whnf)
    (refine ⟨fun g2 => ?_, fun g2 => ?_⟩ <;> rw [g2])
    · have hil : i < ps.length := by rw [ltI_t] at g2; omega
      have e2 := step_i hil hm'
      have hv := hV k i hlt hil
      ((repeat ((conv => whnf); first | refine brT ?_ | refine brF ?_)); conv => whnf)
      refine ⟨i, ps[i].lv, rfl, by simp [hil], rfl, ?_⟩
      ((repeat ((conv => whnf); first | refine brT ?_ | refine brF ?_)); conv => whnf)
      refine ⟨true, by kernel_rfl, ?_⟩
      ((repeat ((conv => whnf); first | refine brT ?_ | refine brF ?_)); conv => whnf)
      refine ⟨_, sexOfStep_spec s, ?_⟩
      ((repeat ((conv => whnf); first | refine brT ?_ | refine brF ?_)); conv => whnf)
      (refine ⟨fun q => ?_, fun q => ?_⟩ <;> rw [q])
      · ((repeat ((conv => whnf); first | refine brT ?_ | refine brF ?_)); conv => whnf)
        refine ⟨_, link5_spec ps us k i, ?_⟩
        ((repeat ((conv => whnf); first | refine brT ?_ | refine brF ?_)); conv => whnf)
        (refine ⟨fun q2 => ?_, fun q2 => ?_⟩ <;> rw [q2])
        · have hvt : V k i = true := by rw [hv, q, q2]; rfl
          have ep := doneP_put (V := V) (k := k) hil
          rw [hvt] at ep
          ((repeat ((conv => whnf); first | refine brT ?_ | refine brF ?_)); conv => whnf)
          refine ⟨by simp [setsP_len], rfl, k, rfl, by simpa [setsP_len] using hlt, ?_⟩
          ((repeat ((conv => whnf); first | refine brT ?_ | refine brF ?_)); conv => whnf)
          refine ⟨[5], _, _, _, _, add_elem ps.length (doneP ps.length V k i) k i hlt hil hN ps.length (by simp [setsP_len]), rfl, ?_⟩
          ((repeat ((conv => whnf); first | refine brT ?_ | refine brF ?_)); conv => whnf)
          refine ⟨rfl, rfl, trivial, ?_⟩
          ((repeat ((conv => whnf); first | refine brT ?_ | refine brF ?_)); conv => whnf)
          refine round_end (i + 1) hil (by omega) ⟨?_, ⟨rfl, rfl, rfl, rfl, rfl, congrArg (fun P => Blk.arr 170 1 ((setsP ps.length P).map uLV)) ep, trivial⟩, rfl, rfl⟩
          ((repeat ((conv => whnf); first | refine ⟨e2, ?_⟩ | refine ⟨rfl, ?_⟩)); trivial)
        · have hvf : V k i = false := by rw [hv, q, q2]; rfl
          ((repeat ((conv => whnf); first | refine brT ?_ | refine brF ?_)); conv => whnf)
          refine round_end (i + 1) hil (by omega) ⟨?_, ⟨rfl, rfl, rfl, rfl, rfl, congrArg (fun P => Blk.arr 170 1 ((setsP ps.length P).map uLV)) (doneP_skip hil hvf), trivial⟩, rfl, rfl⟩
          ((repeat ((conv => whnf); first | refine ⟨e2, ?_⟩ | refine ⟨rfl, ?_⟩)); trivial)
      · have hvf : V k i = false := by rw [hv, q]; rfl
        ((repeat ((conv => whnf); first | refine brT ?_ | refine brF ?_)); conv => whnf)
        refine round_end (i + 1) hil (by omega) ⟨?_, ⟨rfl, rfl, rfl, rfl, rfl, congrArg (fun P => Blk.arr 170 1 ((setsP ps.length P).map uLV)) (doneP_skip hil hvf), trivial⟩, rfl, rfl⟩
        ((repeat ((conv => whnf); first | refine ⟨e2, ?_⟩ | refine ⟨rfl, ?_⟩)); trivial)
    · have hil : i = ps.length := by rw [ltI_f] at g2; omega
      subst hil
      subst hKK
      ((repeat ((conv => whnf); first | refine brT ?_ | refine brF ?_)); conv => whnf)
      refine round_end (k + 1) hlt (by omega) ⟨?_, ⟨rfl, rfl, rfl, rfl, rfl, congrArg (fun P => Blk.arr 170 1 ((setsP ps.length P).map uLV)) (doneP_row ps.length V k), trivial⟩, rfl, rfl⟩
      ((repeat ((conv => whnf); first | refine ⟨e1, ?_⟩ | refine ⟨rfl, ?_⟩)); trivial)
  · have h3 : k = ps.length := by rw [ltI_f] at g1; omega
    subst h3
    ((repeat ((conv => whnf); first | refine brT ?_ | refine brF ?_)); conv => whnf)
    exact ⟨[.hs 0 ps.length], rfl, rfl, .inr ⟨[.old 5], ⟨rfl, rfl, trivial⟩, ⟨rfl, rfl, trivial⟩, rfl⟩⟩
end Go.Proofs.YtdhmnojnkgmmnaaGreat


namespace Go.Proofs.YtdhmnojnkgmmnaaGreat
open Go.Lg
set_option maxHeartbeats 3200000
set_option maxRecDepth 10000
set_option linter.unusedVariables false
set_option linter.unusedSimpArgs false

/-! ### In a valid family both ways of following a step are one -/
theorem par_one {ps : List Per} {i : Nat} {x sx born : Int} (h : parentOk (ps.take i) x sx born = true) :
    (x = -1 ∨ (0 ≤ x ∧ x.toNat < ps.length)) ∧ ∀ (b : Nat) (hb : b < ps.length), x = (b : Int) → ps[b].sex = sx := by
  unfold parentOk at h
  simp only [Bool.or_eq_true, eqI_t, Bool.and_eq_true, leI_t] at h
  rcases h with h | ⟨h0, h1⟩
  · exact ⟨.inl h, fun b hb e => by omega⟩
  · split at h1
    · cases h1
    · rename_i q hq
      obtain ⟨hl, e⟩ := List.getElem?_eq_some_iff.1 hq
      simp only [Bool.and_eq_true, eqI_t] at h1
      rw [List.length_take] at hl
      rw [List.getElem_take] at e
      refine ⟨.inr ⟨h0, by omega⟩, fun b hb ex => ?_⟩
      have eb : x.toNat = b := by omega
      subst eb
      rw [e]
      exact h1.1
theorem par_sex {ps : List Per} {us : List Uni} (h : famOk ps us = true) {i : Nat} (hi : i < ps.length) :
    ((ps[i].father = -1 ∨ (0 ≤ ps[i].father ∧ ps[i].father.toNat < ps.length)) ∧ ∀ (b : Nat) (hb : b < ps.length), ps[i].father = (b : Int) → ps[b].sex = 1) ∧
    ((ps[i].mother = -1 ∨ (0 ≤ ps[i].mother ∧ ps[i].mother.toNat < ps.length)) ∧ ∀ (b : Nat) (hb : b < ps.length), ps[i].mother = (b : Int) → ps[b].sex = 2) := by
  obtain ⟨_, _, hp, _, _⟩ := famOk_parts h
  obtain ⟨_, _, _, _, _, _, p1, p2⟩ := personOk_spec (personsTo_get hp hi hi)
  exact ⟨par_one p1, par_one p2⟩
theorem uni_sex {ps : List Per} {us : List Uni} (h : famOk ps us = true) {u : Uni} (hu : u ∈ us) :
    (∀ (b : Nat) (hb : b < ps.length), u.husband = (b : Int) → ps[b].sex = 1) ∧ (∀ (b : Nat) (hb : b < ps.length), u.wife = (b : Int) → ps[b].sex = 2) := by
  obtain ⟨k, hk, rfl⟩ := List.getElem_of_mem hu
  obtain ⟨_, _, hp, hus, _⟩ := famOk_parts h
  have hok : unionOk ps (us.take k) us[k] = true := by
    cases e : unionOk ps (us.take k) us[k] with
    | true => rfl
    | false => rw [unionsTo_no hk hk e] at hus; cases hus
  unfold unionOk at hok
  simp only [Bool.and_eq_true] at hok
  obtain ⟨⟨h1, h2⟩, _⟩ := hok
  obtain ⟨m0, ml, m⟩ := ofSex_lt h1
  obtain ⟨w0, wl, w⟩ := ofSex_lt h2
  constructor
  · intro b hb e
    have eb : us[k].husband.toNat = b := by omega
    subst eb; exact m
  · intro b hb e
    have eb : us[k].wife.toNat = b := by omega
    subst eb; exact w

/-- A father is no one's mother. -/
theorem far {ps : List Per} {us : List Uni} (h : famOk ps us = true) {i j : Nat} (hi : i < ps.length) (hj : j < ps.length) (e : ps[i].father ≠ -1) : ps[i].father ≠ ps[j].mother := by
  obtain ⟨⟨f1, f2⟩, _⟩ := par_sex h hi
  obtain ⟨_, _, m2⟩ := par_sex h hj
  intro k
  rcases f1 with f1 | ⟨f0, fl⟩
  · exact e f1
  · have a1 := f2 _ fl (by omega)
    have a2 := m2 _ fl (by omega)
    omega

theorem comN_two (x y : Per) : (eqI ((comN x y : Nat) : Int) 2) = (notB (eqI x.father (-1)) && (comB y x.father && (notB (eqI x.mother (-1)) && comB y x.mother))) := by
  show eqI (((([x.father, x.mother].filter notNone).filter (comB y)).length : Nat) : Int) 2 = (notNone x.father && (comB y x.father && (notNone x.mother && comB y x.mother)))
  cases h1 : notNone x.father <;> cases h2 : notNone x.mother <;> cases h3 : comB y x.father <;> cases h4 : comB y x.mother <;> simp [-List.filter_filter, List.filter_cons, h1, h2, h3, h4, eqI_d]
theorem any_ext {α : Type} {p q : α → Bool} : ∀ {l : List α}, (∀ u ∈ l, p u = q u) → l.any p = l.any q
  | [], _ => rfl
  | u :: l, h => by rw [List.any_cons, List.any_cons, h u (by simp), any_ext (l := l) fun v hv => h v (by simp [hv])]

theorem sib_full {ps : List Per} {us : List Uni} (h : famOk ps us = true) {a b : Nat} (ha : a < ps.length) (hb : b < ps.length) : sibB ps[a] ps[b] a b = fullB ps[a] ps[b] a b := by
  unfold sibB fullB
  rw [comN_two]
  have f1 := (par_sex h ha).1.1
  have f2 := (par_sex h ha).2.1
  have f3 := fun e => far h ha hb e
  have f4 := fun e => far h hb ha e
  have f5 := fun e => far h ha ha e
  unfold comB
  simp only [eqI_d, leI_d, notB_d]
  generalize ps[a].father = F at *
  generalize ps[a].mother = M at *
  generalize ps[b].father = F' at *
  generalize ps[b].mother = M' at *
  rw [Bool.eq_iff_iff]
  simp only [Bool.and_eq_true, Bool.or_eq_true, Bool.not_eq_true', decide_eq_true_eq, decide_eq_false_iff_not]
  constructor
  · rintro ⟨n, h1, h2, h3, h4⟩
    refine ⟨n, by omega, by omega, ?_, ?_⟩
    · have := f3 h1; omega
    · by_cases e : F' = -1
      · omega
      · have := f4 e; omega
  · rintro ⟨n, h1, h2, h3, h4⟩
    exact ⟨n, by omega, by omega, by omega, by omega⟩
theorem age_eq (ps : List Per) (g a b : Int) : ageX ps g a b = ageB ps g a b := by
  unfold ageX ageB
  simp only [eqI_d, notB_d]
  by_cases h1 : g = 1
  · subst h1; simp
  · by_cases h2 : g = 2
    · subst h2; simp
    · simp [h1, h2]

section
variable {ps : List Per} {us : List Uni} {s : Pr} (h : famOk ps us = true)
include h
theorem same_a (hk : (eqI s.a 1 || eqI s.a 2) = true) (a b : Nat) (ha : a < ps.length) (hb : b < ps.length) : l3P ps us s a b = (eqI ps[b].sex (sxOf s.a) && chB ps[a] b) := by
  have f1 := (par_sex h ha).1.2 b hb
  have f2 := (par_sex h ha).2.2 b hb
  simp only [l3P, List.getElem?_eq_getElem ha, List.getElem?_eq_getElem hb, kinB, chB]
  simp only [Bool.or_eq_true, eqI_t] at hk
  rcases hk with e | e
  · have e1 : sxOf s.a = 1 := by rw [e]; simp [sxOf, eqI_d]
    rw [e1, e]
    simp only [eqI_d]
    rw [Bool.eq_iff_iff]
    simp only [Bool.and_eq_true, Bool.or_eq_true, decide_eq_true_eq, decide_true]
    constructor
    · rintro ⟨h1, h2⟩; exact ⟨h1, .inl h2⟩
    · rintro ⟨h1, h2 | h2⟩
      · exact ⟨h1, h2⟩
      · have := f2 h2; omega
  · have e1 : sxOf s.a = 2 := by rw [e]; simp [sxOf, eqI_d]
    rw [e1, e]
    simp only [eqI_d]
    rw [Bool.eq_iff_iff]
    simp
    intro h1 h2
    have := f1 h2; omega
theorem same_b (h1 : eqI s.a 1 = false) (h2 : eqI s.a 2 = false) (hk : (eqI s.a 3 || eqI s.a 4) = true) (a b : Nat) (ha : a < ps.length) (hb : b < ps.length) :
    l3P ps us s a b = (eqI ps[b].sex (sxOf s.a) && (sibB ps[a] ps[b] a b && ageX ps s.b a b)) := by
  simp only [l3P, List.getElem?_eq_getElem ha, List.getElem?_eq_getElem hb, kinB, h1, h2]
  have e5 : (eqI s.a 5 || eqI s.a 6) = false := by simp only [eqI_d] at *; simp only [Bool.or_eq_true, decide_eq_true_eq] at hk; simp; omega
  have e7 : (eqI s.a 7 || eqI s.a 8) = false := by simp only [eqI_d] at *; simp only [Bool.or_eq_true, decide_eq_true_eq] at hk; simp; omega
  simp only [e5, e7]
  rw [sib_full h ha hb, age_eq, Bool.and_comm (fullB _ _ _ _)]
omit h in
theorem same_c (h1 : eqI s.a 1 = false) (h2 : eqI s.a 2 = false) (hk : (eqI s.a 5 || eqI s.a 6) = true) (a b : Nat) (ha : a < ps.length) (hb : b < ps.length) :
    l3P ps us s a b = (eqI ps[b].sex (sxOf s.a) && chB ps[b] a) := by
  simp only [l3P, List.getElem?_eq_getElem ha, List.getElem?_eq_getElem hb, kinB, h1, h2, hk, chB]
theorem same_d (h7 : eqI s.a 7 = true) (a b : Nat) (ha : a < ps.length) (hb : b < ps.length) :
    l3P ps us s a b = (eqI ps[b].sex (sxOf s.a) && us.any (unitedOf b a)) := by
  rw [eqI_t] at h7
  have e1 : sxOf s.a = 1 := by rw [h7]; simp [sxOf, eqI_d]
  simp only [l3P, List.getElem?_eq_getElem ha, List.getElem?_eq_getElem hb, kinB, e1]
  rw [h7]
  simp only [eqI_d]
  by_cases hs : ps[b].sex = 1
  · simp only [hs]
    congr 1
    show us.any (wedB a b) = us.any (unitedOf b a)
    refine any_ext fun u hu => ?_
    have m1 := (uni_sex h hu).1 a ha
    have m2 := (uni_sex h hu).2 a ha
    have w2 := (uni_sex h hu).2 b hb
    unfold wedB unitedOf
    simp only [eqI_d]
    rw [Bool.eq_iff_iff]
    by_cases hh : u.husband = (a : Int)
    · have n1 : ¬ u.wife = (b : Int) := fun e => by have := w2 e; omega
      have n2 : ¬ u.wife = (a : Int) := fun e => by have := m1 hh; have := m2 e; omega
      simp [hh, n1, n2]
    · simp [hh, and_comm]
  · simp [hs]
theorem same_e (h8 : eqI s.a 8 = true) (a b : Nat) (ha : a < ps.length) (hb : b < ps.length) :
    l3P ps us s a b = (eqI ps[b].sex (sxOf s.a) && us.any (unitedOf a b)) := by
  rw [eqI_t] at h8
  have e1 : sxOf s.a = 2 := by rw [h8]; simp [sxOf, eqI_d]
  simp only [l3P, List.getElem?_eq_getElem ha, List.getElem?_eq_getElem hb, kinB, e1]
  rw [h8]
  simp only [eqI_d]
  by_cases hs : ps[b].sex = 2
  · simp only [hs]
    congr 1
    show us.any (wedB a b) = us.any (unitedOf a b)
    refine any_ext fun u hu => ?_
    have m1 := (uni_sex h hu).1 b hb
    unfold wedB unitedOf
    simp only [eqI_d]
    rw [Bool.eq_iff_iff]
    by_cases hh : u.husband = (a : Int)
    · simp [hh]
    · have n1 : ¬ u.husband = (b : Int) := fun e => by have := m1 e; omega
      simp [hh, n1]
  · simp [hs]
end

/-- What impl reaches, by one predicate, whatever the kind. -/
theorem reachOf_h (ps : List Per) (us : List Uni) (s : Pr) (h : famOk ps us = true) (hs : stepB s.a s.b 0 = true) :
    HSpec env.P 126 [famLV ps us, s.lv] [] (.hs 0 ps.length) [.arr 170 1 ((setsP ps.length (doneP ps.length (l3P ps us s) ps.length 0)).map uLV)] := by
  have hN := (famOk_parts h).1
  cases h12 : (eqI s.a 1 || eqI s.a 2)
  rotate_left
  · exact reachOf_a ps us s hN h12 _ (fun a b ha hb => same_a h h12 a b ha hb)
  obtain ⟨h1, h2⟩ := Bool.or_eq_false_iff.1 h12
  cases h34 : (eqI s.a 3 || eqI s.a 4)
  rotate_left
  · exact reachOf_b ps us s hN h1 h2 h34 _ (fun a b ha hb => same_b h h1 h2 h34 a b ha hb)
  obtain ⟨h3, h4⟩ := Bool.or_eq_false_iff.1 h34
  cases h56 : (eqI s.a 5 || eqI s.a 6)
  rotate_left
  · exact reachOf_c ps us s hN h1 h2 h3 h4 h56 _ (fun a b ha hb => same_c h1 h2 h56 a b ha hb)
  obtain ⟨h5, h6⟩ := Bool.or_eq_false_iff.1 h56
  cases h7 : eqI s.a 7
  · have h8 : eqI s.a 8 = true := by
      unfold stepB at hs
      simp only [h1, h2, h3, h4, h5, h6, h7] at hs
      simp only [Bool.or_false, Bool.false_and, Bool.false_or, Bool.or_self, Bool.and_eq_true] at hs
      exact hs.1
    exact reachOf_e ps us s hN h1 h2 h3 h4 h5 h6 h7 _ (fun a b ha hb => same_e h h8 a b ha hb)
  · exact reachOf_d ps us s hN h1 h2 h3 h4 h5 h6 h7 _ (fun a b ha hb => same_d h h7 a b ha hb)
theorem implStep_h (ps : List Per) (us : List Uni) (s : Pr) :
    HSpec env.P 79 [famLV ps us, s.lv] [] (relHS (stepN ps us s) 0 ((relRows (stepN ps us s) (l3P ps us s)).map rowOw).length) [.tree 31 1 ((relRows (stepN ps us s) (l3P ps us s)).map rowOw)] := by
  refine HSpec_of_code (E := env.x [126, 76] 0) env_ok.x (fn := Tryz.f79) Tryz.func79 rfl Tryz.call79 _ _ _ _ ?_
  have hno : (famOk ps us && stepB s.a s.b 0) = false → stepN ps us s = 0 := fun h => by unfold stepN; rw [h]
  ((repeat ((conv => whnf); first | refine brT ?_ | refine brF ?_)); conv => whnf)
  refine ⟨_, isFamily_impl ps us, ?_⟩
  ((repeat ((conv => whnf); first | refine brT ?_ | refine brF ?_)); conv => whnf)
  (refine ⟨fun h => ?_, fun h => ?_⟩ <;> rw [h])
  · rw [notB_t] at h
    rw [hno (by rw [h]; rfl)]
    ((repeat ((conv => whnf); first | refine brT ?_ | refine brF ?_)); conv => whnf)
    exact ⟨[relHS 0 0 0], rfl, rfl, .nl [.tmp 0 [1] true 31 1] [.old 3] ⟨⟨rfl, rfl, trivial⟩, ⟨rfl, rfl, trivial⟩, rfl⟩⟩
  rw [notB_f] at h
  ((repeat ((conv => whnf); first | refine brT ?_ | refine brF ?_)); conv => whnf)
  refine ⟨_, isStepFrom_spec 0 s, ?_⟩
  ((repeat ((conv => whnf); first | refine brT ?_ | refine brF ?_)); conv => whnf)
  (refine ⟨fun h2 => ?_, fun h2 => ?_⟩ <;> rw [h2])
  · rw [notB_t] at h2
    rw [hno (by rw [h, h2]; rfl)]
    ((repeat ((conv => whnf); first | refine brT ?_ | refine brF ?_)); conv => whnf)
    exact ⟨[relHS 0 0 0], rfl, rfl, .nl [.tmp 0 [1] true 31 1] [.old 3] ⟨⟨rfl, rfl, trivial⟩, ⟨rfl, rfl, trivial⟩, rfl⟩⟩
  rw [notB_f] at h2
  rw [show stepN ps us s = ps.length by unfold stepN; rw [h, h2]; rfl]
  have hN := (famOk_parts h).1
  ((repeat ((conv => whnf); first | refine brT ?_ | refine brF ?_)); conv => whnf)
  refine ⟨[], _, _, _, _, reachOf_h ps us s h h2, rfl, rfl, rfl, trivial, ?_⟩
  ((repeat ((conv => whnf); first | refine brT ?_ | refine brF ?_)); conv => whnf)
  have hR := relationOfSets_P ps.length (doneP ps.length (l3P ps us s) ps.length 0) hN
  rw [show relRows ps.length (doneP ps.length (l3P ps us s) ps.length 0) = relRows ps.length (l3P ps us s) from relRows_ext (doneP_all ps.length (l3P ps us s))] at hR
  refine ⟨[], _, _, _, _, hR, rfl, ?_⟩
  ((repeat ((conv => whnf); first | refine brT ?_ | refine brF ?_)); conv => whnf)
  refine ⟨by simp [setsP_len], ?_⟩
  ((repeat ((conv => whnf); first | refine brT ?_ | refine brF ?_)); conv => whnf)
  refine ⟨rfl, rfl, ⟨rfl, flatTs_rows _, trivial⟩, ?_⟩
  ((repeat ((conv => whnf); first | refine brT ?_ | refine brF ?_)); conv => whnf)
  refine ⟨[relHS ps.length 0 ((relRows ps.length (l3P ps us s)).map rowOw).length], rfl, rfl, .inr ⟨[.old 4], ⟨rfl, rfl, trivial⟩, ⟨rfl, rfl, trivial⟩, rfl⟩⟩
end Go.Proofs.YtdhmnojnkgmmnaaGreat


namespace Go.Proofs.YtdhmnojnkgmmnaaGreat
open Go.Lg
set_option maxHeartbeats 3200000
set_option maxRecDepth 10000
set_option linter.unusedVariables false
set_option linter.unusedSimpArgs false

/-! ### Where a type starts -/
def egoB (e : Int) (x : Per) : Bool := eqI e 0 || eqI e x.sex
def egoAt (ps : List Per) (e : Int) (a : Nat) : Bool := match ps[a]? with | some x => egoB e x | none => false
def egoTo (ps : List Per) (e : Int) (k : Nat) (a b : Nat) : Bool := decide (a = b ∧ a < k) && egoAt ps e a
theorem egoTo_zero (ps : List Per) (e : Int) : egoTo ps e 0 = fun _ _ => false := by funext a b; simp [egoTo]
theorem egoTo_put {ps : List Per} {e : Int} {k : Nat} (hk : k < ps.length) : putP (egoTo ps e k) k k (egoB e ps[k]) = egoTo ps e (k + 1) := by
  funext a b
  unfold putP egoTo
  by_cases h : a = k ∧ b = k
  · obtain ⟨rfl, rfl⟩ := h
    simp [egoAt, hk]
  · rw [if_neg h]
    congr 1
    rw [decide_eq_decide]
    omega
theorem egoTo_skip {ps : List Per} {e : Int} {k : Nat} (hk : k < ps.length) (h : egoB e ps[k] = false) : egoTo ps e k = egoTo ps e (k + 1) := by
  rw [← egoTo_put hk, h]
  funext a b
  unfold putP
  by_cases e : a = k ∧ b = k
  · obtain ⟨rfl, rfl⟩ := e; simp [egoTo]
  · rw [if_neg e]

theorem egosOf_h (ps : List Per) (us : List Uni) (e : Int) (hN : ps.length ≤ 40) :
    HSpec env.P 77 [famLV ps us, .int .i64 e] [] (.hs 0 ps.length) [.arr 170 1 ((setsP ps.length (egoTo ps e ps.length)).map uLV)] := by
  refine HSpec_of_code (E := env.x [121] 0) env_ok.x (fn := Tryz.f77) Tryz.func77 rfl Tryz.call77 _ _ _ _ ?_
  ((repeat ((conv => whnf); first | refine brT ?_ | refine brF ?_)); conv => whnf)
  intro hm
  have hm' : ps.length ≤ Go.maxLen := by simpa using hm
  rw [show (List.map Per.lv ps).length = ps.length by simp]
  ((repeat ((conv => whnf); first | refine brT ?_ | refine brF ?_)); conv => whnf)
  refine ⟨ps.length, rfl, rfl, by show 8 * ps.length ≤ _; omega, by unfold Go.maxLen; omega, rfl, by decide, ?_⟩
  have ez : List.replicate ps.length (LV.int .u64 0) = (setsP ps.length (egoTo ps e 0)).map uLV := by rw [egoTo_zero, ← setsP_zero]; simp [uLV]
  ((repeat ((conv => whnf); first | refine brT ?_ | refine brF ?_)); conv => whnf)
  rw [ez]
  intro _
  rw [show (List.map Per.lv ps).length = ps.length by simp]
  ((repeat ((conv => whnf); first | refine brT ?_ | refine brF ?_)); conv => whnf)
  refine loop_rule (α := Nat) (fun k => [(15, .int .i64 (k : Int))])
    (fun k => [.box (famLV ps us), .arr 170 1 ((setsP ps.length (egoTo ps e k)).map uLV)]) (fun k => ps.length - k) (fun k => k ≤ ps.length) 0 (Nat.zero_le _) ?_ ?_
  · refine ⟨?_, ⟨rfl, rfl, trivial⟩, rfl, rfl⟩
    ((repeat ((conv => whnf); refine ⟨rfl, ?_⟩)); trivial)
  intro k hk
  ((repeat ((conv => whnf); first | refine brT ?_ | refine brF ?_)); conv => whnf)
  (refine ⟨fun g1 => ?_, fun g1 => ?_⟩ <;> rw [g1])
  · have hlt : k < ps.length := by rw [ltI_t] at g1; omega
    have e1 := step_i hlt hm'
    have ep := egoTo_put (e := e) hlt
    ((repeat ((conv => whnf); first | refine brT ?_ | refine brF ?_)); conv => whnf)
    refine ⟨k, ps[k].lv, rfl, by simp [hlt], rfl, ?_⟩
    ((repeat ((conv => whnf); first | refine brT ?_ | refine brF ?_)); conv => whnf)
    (refine ⟨fun q => ?_, fun q => ?_⟩ <;> rw [q])
    · rw [show egoB e ps[k] = true by unfold egoB; rw [q]; rfl] at ep
      ((repeat ((conv => whnf); first | refine brT ?_ | refine brF ?_)); conv => whnf)
      refine ⟨by simp [setsP_len], rfl, k, rfl, by simpa [setsP_len] using hlt, ?_⟩
      ((repeat ((conv => whnf); first | refine brT ?_ | refine brF ?_)); conv => whnf)
      refine ⟨[1], _, _, _, _, add_elem ps.length (egoTo ps e k) k k hlt hlt hN ps.length (by simp [setsP_len]), rfl, ?_⟩
      ((repeat ((conv => whnf); first | refine brT ?_ | refine brF ?_)); conv => whnf)
      refine ⟨rfl, rfl, trivial, ?_⟩
      ((repeat ((conv => whnf); first | refine brT ?_ | refine brF ?_)); conv => whnf)
      refine round_end (k + 1) hlt (by omega) ⟨?_, ⟨rfl, congrArg (fun P => Blk.arr 170 1 ((setsP ps.length P).map uLV)) ep, trivial⟩, rfl, rfl⟩
      ((repeat ((conv => whnf); first | refine ⟨e1, ?_⟩ | refine ⟨rfl, ?_⟩)); trivial)
    · ((repeat ((conv => whnf); first | refine brT ?_ | refine brF ?_)); conv => whnf)
      (refine ⟨fun q2 => ?_, fun q2 => ?_⟩ <;> rw [q2])
      · rw [show egoB e ps[k] = true by unfold egoB; rw [q, q2]; rfl] at ep
        ((repeat ((conv => whnf); first | refine brT ?_ | refine brF ?_)); conv => whnf)
        refine ⟨by simp [setsP_len], rfl, k, rfl, by simpa [setsP_len] using hlt, ?_⟩
        ((repeat ((conv => whnf); first | refine brT ?_ | refine brF ?_)); conv => whnf)
        refine ⟨[1], _, _, _, _, add_elem ps.length (egoTo ps e k) k k hlt hlt hN ps.length (by simp [setsP_len]), rfl, ?_⟩
        ((repeat ((conv => whnf); first | refine brT ?_ | refine brF ?_)); conv => whnf)
        refine ⟨rfl, rfl, trivial, ?_⟩
        ((repeat ((conv => whnf); first | refine brT ?_ | refine brF ?_)); conv => whnf)
        refine round_end (k + 1) hlt (by omega) ⟨?_, ⟨rfl, congrArg (fun P => Blk.arr 170 1 ((setsP ps.length P).map uLV)) ep, trivial⟩, rfl, rfl⟩
        ((repeat ((conv => whnf); first | refine ⟨e1, ?_⟩ | refine ⟨rfl, ?_⟩)); trivial)
      · have hf : egoB e ps[k] = false := by unfold egoB; rw [q, q2]; rfl
        ((repeat ((conv => whnf); first | refine brT ?_ | refine brF ?_)); conv => whnf)
        refine round_end (k + 1) hlt (by omega) ⟨?_, ⟨rfl, congrArg (fun P => Blk.arr 170 1 ((setsP ps.length P).map uLV)) (egoTo_skip hlt hf), trivial⟩, rfl, rfl⟩
        ((repeat ((conv => whnf); first | refine ⟨e1, ?_⟩ | refine ⟨rfl, ?_⟩)); trivial)
  · have h3 : k = ps.length := by rw [ltI_f] at g1; omega
    subst h3
    ((repeat ((conv => whnf); first | refine brT ?_ | refine brF ?_)); conv => whnf)
    exact ⟨[.hs 0 ps.length], rfl, rfl, .inr ⟨[.old 1], ⟨rfl, rfl, trivial⟩, ⟨rfl, rfl, trivial⟩, rfl⟩⟩
end Go.Proofs.YtdhmnojnkgmmnaaGreat


namespace Go.Proofs.YtdhmnojnkgmmnaaGreat
open Go.Lg
set_option maxHeartbeats 3200000
set_option maxRecDepth 10000
set_option linter.unusedVariables false
set_option linter.unusedSimpArgs false

/-! ### The program's operations on relations that are told by predicates -/
abbrev valR (N : Nat) (P : Nat → Nat → Bool) : LV := relLV N (relRows N P)
abbrev outR (N : Nat) (P : Nat → Nat → Bool) : LV := .st [.int .i64 (N : Int), .own 31 1 ((relRows N P).map rowSl)]
section
variable {N : Nat} {P Q S : Nat → Nat → Bool}
theorem okR (hN : N ≤ 40) : relOk N (relRows N P) = true := relOk_of (relRows_in hN)
theorem alR (hN : N ≤ 40) : alike N (relRows N P) N (relRows N Q) = true := by
  unfold alike
  rw [okR hN, okR hN, eqI_refl]; rfl
theorem rsR (b : Bool) (h : b = true) : rsN b (relRows N P) = N := by subst h; exact relRows_len N P
theorem compP_ext {P' Q' : Nat → Nat → Bool} (hP : ∀ a, a < N → ∀ b, b < N → P a b = P' a b) (hQ : ∀ a, a < N → ∀ b, b < N → Q a b = Q' a b) : ∀ a, a < N → ∀ b, b < N → compP N P Q a b = compP N P' Q' a b := by
  intro a ha c hc
  unfold compP onP
  rw [decide_eq_decide]
  constructor
  · rintro ⟨b, hb, h1, h2⟩; exact ⟨b, hb, by rw [← hP a ha b hb]; exact h1, by rw [← hQ b hb c hc]; exact h2⟩
  · rintro ⟨b, hb, h1, h2⟩; exact ⟨b, hb, by rw [hP a ha b hb]; exact h1, by rw [hQ b hb c hc]; exact h2⟩
end

end Go.Proofs.YtdhmnojnkgmmnaaGreat

namespace Go.Proofs.YtdhmnojnkgmmnaaGreat
open Go.Lg
set_option maxHeartbeats 3200000
set_option maxRecDepth 10000
set_option linter.unusedVariables false
set_option linter.unusedSimpArgs false

/-! ### RelationFor: from the egos, step by step -/
theorem stepB_zero {k g x : Int} (h : stepB k g x = true) : stepB k g 0 = true := by
  unfold stepB at *
  simp only [eqI_d, notB_d] at *
  simp at *
  grind
def walkTo (ps : List Per) (us : List Uni) (e : Int) (ss : List Pr) : Nat → Nat → Nat → Bool
  | 0 => egoTo ps e ps.length
  | k + 1 => compP ps.length (walkTo ps us e ss k) (l3P ps us (ss.getD k ⟨0, 0⟩))
theorem walkTo_succ {ps : List Per} {us : List Uni} {e : Int} {ss : List Pr} {k : Nat} (h : k < ss.length) : walkTo ps us e ss (k + 1) = compP ps.length (walkTo ps us e ss k) (l3P ps us ss[k]) := by
  show compP ps.length (walkTo ps us e ss k) (l3P ps us (ss.getD k ⟨0, 0⟩)) = _
  rw [List.getD_eq_getElem?_getD, List.getElem?_eq_getElem h]; rfl
def forN (ps : List Per) (us : List Uni) (e : Int) (ss : List Pr) : Nat := match famOk ps us && typB e ss with | true => ps.length | false => 0
theorem typB_step {e : Int} {ss : List Pr} (h : typB e ss = true) {k : Nat} (hk : k < ss.length) : stepB ss[k].a ss[k].b 0 = true := by
  unfold typB stepsTo at h
  simp only [Bool.and_eq_true, List.all_eq_true] at h
  have := h.2.2 k (List.mem_range.2 hk)
  rw [List.getElem?_eq_getElem hk] at this
  exact stepB_zero this
theorem typB_len {e : Int} {ss : List Pr} (h : typB e ss = true) : ss.length ≤ 8 := by
  unfold typB at h
  simp only [Bool.and_eq_true, leI_t] at h
  have := h.2.1
  omega
theorem comp_h {N : Nat} (hN : N ≤ 40) (P Q : Nat → Nat → Bool) : HSpec env.P 78 [valR N P, valR N Q] [] (relHS N 0 ((relRows N (compP N P Q)).map rowOw).length) [.tree 31 1 ((relRows N (compP N P Q)).map rowOw)] := by
  have h := implCompose_h N (relRows N P) N (relRows N Q)
  rw [rsR _ (alR hN), relRows_len, relRows_ext (compP_ext (fun a ha b hb => relP_relRows ha hb) (fun a ha b hb => relP_relRows ha hb))] at h
  exact h
theorem step_f {ps : List Per} {us : List Uni} {s : Pr} (h : famOk ps us = true) (hs : stepB s.a s.b 0 = true) : FSpec env.P 79 [famLV ps us, s.lv] (outR ps.length (l3P ps us s)) := by
  have k := implStep_h ps us s
  rw [show stepN ps us s = ps.length by unfold stepN; rw [h, hs]; rfl] at k
  exact rel_f k

theorem implFor_h (ps : List Per) (us : List Uni) (e : Int) (ss : List Pr) :
    HSpec env.P 40 [famLV ps us, typLV e ss] [] (relHS (forN ps us e ss) 0 ((relRows (forN ps us e ss) (walkTo ps us e ss ss.length)).map rowOw).length) [.tree 31 1 ((relRows (forN ps us e ss) (walkTo ps us e ss ss.length)).map rowOw)] := by
  refine HSpec_of_code (E := env.x [77, 76, 78] 0) env_ok.x (fn := Tryz.f40) Tryz.func40 rfl Tryz.call40 _ _ _ _ ?_
  have hno : (famOk ps us && typB e ss) = false → forN ps us e ss = 0 := fun h => by unfold forN; rw [h]
  ((repeat ((conv => whnf); first | refine brT ?_ | refine brF ?_)); conv => whnf)
  refine ⟨_, isFamily_impl ps us, ?_⟩
  ((repeat ((conv => whnf); first | refine brT ?_ | refine brF ?_)); conv => whnf)
  (refine ⟨fun h => ?_, fun h => ?_⟩ <;> rw [h])
  · rw [notB_t] at h
    rw [hno (by rw [h]; rfl)]
    ((repeat ((conv => whnf); first | refine brT ?_ | refine brF ?_)); conv => whnf)
    exact ⟨[relHS 0 0 0], rfl, rfl, .nl [.tmp 0 [1] true 31 1] [.old 3] ⟨⟨rfl, rfl, trivial⟩, ⟨rfl, rfl, trivial⟩, rfl⟩⟩
  rw [notB_f] at h
  ((repeat ((conv => whnf); first | refine brT ?_ | refine brF ?_)); conv => whnf)
  refine ⟨_, isType_impl e ss, ?_⟩
  ((repeat ((conv => whnf); first | refine brT ?_ | refine brF ?_)); conv => whnf)
  (refine ⟨fun h2 => ?_, fun h2 => ?_⟩ <;> rw [h2])
  · rw [notB_t] at h2
    rw [hno (by rw [h, h2]; rfl)]
    ((repeat ((conv => whnf); first | refine brT ?_ | refine brF ?_)); conv => whnf)
    exact ⟨[relHS 0 0 0], rfl, rfl, .nl [.tmp 0 [1] true 31 1] [.old 3] ⟨⟨rfl, rfl, trivial⟩, ⟨rfl, rfl, trivial⟩, rfl⟩⟩
  rw [notB_f] at h2
  rw [show forN ps us e ss = ps.length by unfold forN; rw [h, h2]; rfl]
  have hN := (famOk_parts h).1
  have hS := typB_len h2
  ((repeat ((conv => whnf); first | refine brT ?_ | refine brF ?_)); conv => whnf)
  refine ⟨[], _, _, _, _, egosOf_h ps us e hN, rfl, rfl, rfl, trivial, ?_⟩
  ((repeat ((conv => whnf); first | refine brT ?_ | refine brF ?_)); conv => whnf)
  have hR := relationOfSets_P ps.length (egoTo ps e ps.length) hN
  refine ⟨[], _, _, _, _, hR, rfl, ?_⟩
  ((repeat ((conv => whnf); first | refine brT ?_ | refine brF ?_)); conv => whnf)
  refine ⟨by simp [setsP_len], ?_⟩
  ((repeat ((conv => whnf); first | refine brT ?_ | refine brF ?_)); conv => whnf)
  refine ⟨rfl, rfl, ⟨rfl, flatTs_rows _, trivial⟩, ?_⟩
  ((repeat ((conv => whnf); first | refine brT ?_ | refine brF ?_)); conv => whnf)
  intro hm
  rw [show (List.map Pr.lv ss).length = ss.length by simp]
  ((repeat ((conv => whnf); first | refine brT ?_ | refine brF ?_)); conv => whnf)
  refine loop_ruleR (α := Nat) [.old 0, .old 1, .old 2, .old 4, .old 5] (fun k => [(5, .hp 4 0 []), (20, .undef), (21, .undef), (25, .int .i64 (k : Int))])
    (fun k => [.box (famLV ps us), .box (typLV e ss), .box (.st [.int .i64 0, .nil]), .tree 31 1 ((relRows ps.length (walkTo ps us e ss k)).map rowOw), .box (relHS ps.length 3 ((relRows ps.length (walkTo ps us e ss k)).map rowOw).length)])
    (fun k => ss.length - k) (fun k => k ≤ ss.length) 0 (Nat.zero_le _) ?_ ?_
  · refine ⟨?_, ⟨rfl, rfl, rfl, rfl, rfl, rfl, rfl, rfl, rfl, rfl, trivial⟩, rfl⟩
    ((repeat ((conv => whnf); refine ⟨rfl, rfl, ?_⟩)); trivial)
  intro k hk
  generalize hKK : kk _ = KK
  ((repeat ((conv => whnf); first | refine brT ?_ | refine brF ?_)); conv => whnf)
  (refine ⟨fun g1 => ?_, fun g1 => ?_⟩ <;> rw [g1])
  · have hlt : k < ss.length := by rw [ltI_t] at g1; omega
    have e1 := step_i hlt (by unfold Go.maxLen; omega)
    have ew := walkTo_succ (ps := ps) (us := us) (e := e) hlt
    ((repeat ((conv => whnf); first | refine brT ?_ | refine brF ?_)); conv => whnf)
    refine ⟨k, ss[k].lv, rfl, by simp [hlt], rfl, ?_⟩
    ((repeat ((conv => whnf); first | refine brT ?_ | refine brF ?_)); conv => whnf)
    refine ⟨false, 4, by kernel_rfl, ?_⟩
    ((repeat ((conv => whnf); first | refine brT ?_ | refine brF ?_)); conv => whnf)
    refine ⟨_, step_f h (typB_step h2 hlt), ?_⟩
    ((repeat ((conv => whnf); first | refine brT ?_ | refine brF ?_)); conv => whnf)
    refine ⟨[], _, _, _, _, comp_h hN (walkTo ps us e ss k) (l3P ps us ss[k]), rfl, ?_⟩
    ((repeat ((conv => whnf); first | refine brT ?_ | refine brF ?_)); conv => whnf)
    refine ⟨rfl, _, dms_rows _, ?_⟩
    ((repeat ((conv => whnf); first | refine brT ?_ | refine brF ?_)); conv => whnf)
    refine ⟨rfl, rfl, ⟨rfl, flatTs_rows _, trivial⟩, ?_⟩
    ((repeat ((conv => whnf); first | refine brT ?_ | refine brF ?_)); conv => whnf)
    rw [← ew]
    refine round_endR [.old 0, .old 1, .old 2, .old 6, .old 4] (k + 1) hlt (by omega) ⟨?_, ⟨rfl, rfl, rfl, rfl, rfl, rfl, rfl, rfl, rfl, rfl, trivial⟩, rfl⟩
    ((repeat ((conv => whnf); first | refine ⟨rfl, e1, ?_⟩ | refine ⟨rfl, rfl, ?_⟩)); trivial)
  · have h3 : k = ss.length := by rw [ltI_f] at g1; omega
    subst h3
    subst hKK
    ((repeat ((conv => whnf); first | refine brT ?_ | refine brF ?_)); conv => whnf)
    exact ⟨[relHS ps.length 0 ((relRows ps.length (walkTo ps us e ss ss.length)).map rowOw).length], rfl, rfl, .inr ⟨[.old 3], ⟨rfl, rfl, trivial⟩, ⟨rfl, rfl, trivial⟩, rfl⟩⟩
end Go.Proofs.YtdhmnojnkgmmnaaGreat


namespace Go.Proofs.YtdhmnojnkgmmnaaGreat
open Go.Lg
set_option maxHeartbeats 6400000
set_option maxRecDepth 10000
set_option linter.unusedVariables false
set_option linter.unusedSimpArgs false

end Go.Proofs.YtdhmnojnkgmmnaaGreat
