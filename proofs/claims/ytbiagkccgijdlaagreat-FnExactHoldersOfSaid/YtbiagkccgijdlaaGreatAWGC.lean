/- Contracts of functions of the program and of its model, told over readings. -/
import Derived.Test.YtbiagkccgijdlaaGreatAWGB
import Derived.Test.YtbiagkccgijdlaaGreatALgSO
import Derived.Shelf.SlSortCmp.NoneTotal
import Derived.Test.YtbiagkccgijdlaaGreatChecked
import Derived.Test.YtbiagkccgijdlaaGreatAWGA
namespace Go.Proofs.YtbiagkccgijdlaaGreat
open Go.Lg
set_option maxHeartbeats 800000
set_option maxRecDepth 10000
set_option linter.unusedVariables false
set_option linter.unusedSimpArgs false

def personsTo (ps : List Per) (k : Nat) : Bool := (List.range k).all fun i => match ps[i]? with | some p => personOk (ps.take i) p | none => true
def unionsTo (ps : List Per) (us : List Uni) (k : Nat) : Bool := (List.range k).all fun i => match us[i]? with | some u => unionOk ps (us.take i) u | none => true
def shallow (ds : List Int) : Bool := ds.all fun d => leI d 10
def famOk (ps : List Per) (us : List Uni) : Bool := decide (ps.length ≤ 40) && (decide (us.length ≤ 60) && (personsTo ps ps.length && (unionsTo ps us us.length && shallow (depths ps))))

theorem personsTo_succ {ps : List Per} {k : Nat} (h : k < ps.length) : personsTo ps (k + 1) = (personsTo ps k && personOk (ps.take k) ps[k]) := by
  unfold personsTo
  rw [List.range_succ, List.all_append]
  simp [h]
theorem personsTo_no {ps : List Per} {i k : Nat} (hi : i < k) (h : i < ps.length) (e : personOk (ps.take i) ps[i] = false) : personsTo ps k = false := by
  unfold personsTo
  rw [List.all_eq_false]
  exact ⟨i, List.mem_range.2 hi, by simp [h, e]⟩
theorem unionsTo_succ {ps : List Per} {us : List Uni} {k : Nat} (h : k < us.length) : unionsTo ps us (k + 1) = (unionsTo ps us k && unionOk ps (us.take k) us[k]) := by
  unfold unionsTo
  rw [List.range_succ, List.all_append]
  simp [h]
theorem unionsTo_no {ps : List Per} {us : List Uni} {i k : Nat} (hi : i < k) (h : i < us.length) (e : unionOk ps (us.take i) us[i] = false) : unionsTo ps us k = false := by
  unfold unionsTo
  rw [List.all_eq_false]
  exact ⟨i, List.mem_range.2 hi, by simp [h, e]⟩
theorem personsTo_get {ps : List Per} {k : Nat} (h : personsTo ps k = true) {i : Nat} (hi : i < k) (hl : i < ps.length) : personOk (ps.take i) ps[i] = true := by
  cases e : personOk (ps.take i) ps[i] with
  | true => rfl
  | false => rw [personsTo_no hi hl e] at h; cases h

theorem personOk_spec {ps : List Per} {p : Per} (h : personOk ps p = true) : findFrom p.name 0 ps = none ∧ isName p.name = true ∧ (p.sex = 1 ∨ p.sex = 2) ∧ 0 ≤ p.born ∧ p.born ≤ 9999 ∧ (p.died = -1 ∨ (p.born ≤ p.died ∧ p.died ≤ 9999)) ∧
    parentOk ps p.father 1 p.born = true ∧ parentOk ps p.mother 2 p.born = true := by
  unfold personOk at h
  split at h
  · cases h
  · rename_i hf
    simp only [endYear, Bool.and_eq_true, Bool.or_eq_true, leI_t, eqI_t] at h
    grind
theorem parentOk_in {ps : List Per} {x s b : Int} (h : parentOk ps x s b = true) : parIn x ps.length := by
  unfold parentOk at h
  simp only [Bool.or_eq_true, eqI_t, Bool.and_eq_true, leI_t] at h
  rcases h with h | ⟨h0, h1⟩
  · exact .inl h
  · split at h1
    · cases h1
    · rename_i q hq
      have := lt_of_get hq
      exact .inr ⟨h0, by omega⟩
theorem parsIn_of {ps : List Per} (h : personsTo ps ps.length = true) : parsIn ps := by
  intro i hi
  obtain ⟨_, _, _, _, _, _, h1, h2⟩ := personOk_spec (personsTo_get h hi hi)
  have e : (ps.take i).length = i := by simp; omega
  have a := parentOk_in h1
  have b := parentOk_in h2
  rw [e] at a b
  exact ⟨a, b⟩

theorem shallow_succ {ds : List Int} {k : Nat} (h : k < ds.length) : shallow (ds.take (k + 1)) = (shallow (ds.take k) && leI ds[k] 10) := by
  unfold shallow
  rw [List.take_succ_eq_append_getElem h, List.all_append]
  simp
theorem shallow_no {ds : List Int} {k : Nat} (h : k < ds.length) (e : ltI 10 ds[k] = true) : shallow ds = false := by
  unfold shallow
  rw [List.all_eq_false]
  refine ⟨ds[k], List.getElem_mem h, ?_⟩
  rw [ltI_t] at e
  rw [Bool.not_eq_true, leI_f]; omega
theorem shallow_le {a : Int} (h : ltI 10 a = false) : leI a 10 = true := by rw [leI_t]; rw [ltI_f] at h; omega

theorem isPersonAfter_take (ps : List Per) (k : Nat) (p : Per) : FSpec env.P 68 [.sl (((ps.map Per.lv).drop 0).take (k - 0)), p.lv] (.bool (personOk (ps.take k) p)) := by
  have := isPersonAfter_spec (ps.take k) p
  rw [List.map_take] at this
  simpa using this
theorem isUnionAfter_take (ps : List Per) (us : List Uni) (k : Nat) (u : Uni) : FSpec env.P 69 [.sl (((us.map Uni.lv).drop 0).take (k - 0)), u.lv, .sl (ps.map Per.lv)] (.bool (unionOk ps (us.take k) u)) := by
  have := isUnionAfter_spec ps (us.take k) u
  rw [List.map_take] at this
  simpa using this

/-- impl.IsFamily -/
theorem isFamily_impl (ps : List Per) (us : List Uni) : FSpec env.P 40 [famLV ps us] (.bool (famOk ps us)) := by
  refine FSpec_of_code env_ok (fn := Tryz.f40) Tryz.func40 rfl Tryz.call40 _ _ ?_
  ((repeat ((conv => whnf); first | refine brT ?_ | refine brF ?_)); conv => whnf)
  intro hpn
  ((repeat ((conv => whnf); first | refine brT ?_ | refine brF ?_)); conv => whnf)
  (refine ⟨fun h1 => ?_, fun h1 => ?_⟩ <;> rw [h1])
  · ((repeat ((conv => whnf); first | refine brT ?_ | refine brF ?_)); conv => whnf)
    refine fin ?_
    have : decide (ps.length ≤ 40) = false := by rw [ltI_t] at h1; simp at h1; simp; omega
    simp [famOk, this]
  have hl : ps.length ≤ 40 := by rw [ltI_f] at h1; simp at h1; omega
  ((repeat ((conv => whnf); first | refine brT ?_ | refine brF ?_)); conv => whnf)
  intro hun
  ((repeat ((conv => whnf); first | refine brT ?_ | refine brF ?_)); conv => whnf)
  (refine ⟨fun h2 => ?_, fun h2 => ?_⟩ <;> rw [h2])
  · ((repeat ((conv => whnf); first | refine brT ?_ | refine brF ?_)); conv => whnf)
    refine fin ?_
    have : decide (us.length ≤ 60) = false := by rw [ltI_t] at h2; simp at h2; simp; omega
    simp [famOk, this]
  have hul : us.length ≤ 60 := by rw [ltI_f] at h2; simp at h2; omega
  have hp' : ps.length ≤ Go.maxLen := by simpa using hpn
  have hu' : us.length ≤ Go.maxLen := by simpa using hun
  have hfam : famOk ps us = (personsTo ps ps.length && (unionsTo ps us us.length && shallow (depths ps))) := by simp [famOk, hl, hul]
  ((repeat ((conv => whnf); first | refine brT ?_ | refine brF ?_)); conv => whnf)
  intro _
  ((repeat ((conv => whnf); first | refine brT ?_ | refine brF ?_)); conv => whnf)
  refine loop_rule (α := Nat) (fun k => [(22, .int .i64 (k : Int))]) (fun k => [.box (famLV ps us)]) (fun k => ps.length - k) (fun k => k ≤ ps.length ∧ personsTo ps k = true) 0 ⟨Nat.zero_le _, rfl⟩ ?_ ?_
  · refine ⟨?_, ⟨rfl, trivial⟩, rfl, rfl⟩
    ((repeat ((conv => whnf); refine ⟨rfl, ?_⟩)); trivial)
  rintro k ⟨hk, hok⟩
  ((repeat ((conv => whnf); first | refine brT ?_ | refine brF ?_)); conv => whnf)
  (refine ⟨fun g1 => ?_, fun g1 => ?_⟩ <;> rw [g1])
  · have hlt : k < ps.length := by rw [ltI_t] at g1; simp at g1; omega
    have e := step_i hlt hp'
    ((repeat ((conv => whnf); first | refine brT ?_ | refine brF ?_)); conv => whnf)
    refine ⟨k, ps[k].lv, rfl, by simp [hlt], rfl, ?_⟩
    ((repeat ((conv => whnf); first | refine brT ?_ | refine brF ?_)); conv => whnf)
    refine ⟨true, by kernel_rfl, ?_⟩
    ((repeat ((conv => whnf); first | refine brT ?_ | refine brF ?_)); conv => whnf)
    refine ⟨0, k, rfl, rfl, by omega, by simp; omega, by simp [Per.lv, LV.size, LV.sizes], ?_⟩
    ((repeat ((conv => whnf); first | refine brT ?_ | refine brF ?_)); conv => whnf)
    refine ⟨_, isPersonAfter_take ps k ps[k], ?_⟩
    ((repeat ((conv => whnf); first | refine brT ?_ | refine brF ?_)); conv => whnf)
    (refine ⟨fun g2 => ?_, fun g2 => ?_⟩ <;> rw [g2])
    · rw [notB_t] at g2
      ((repeat ((conv => whnf); first | refine brT ?_ | refine brF ?_)); conv => whnf)
      refine fin ?_
      rw [hfam, personsTo_no hlt hlt g2]
      rfl
    · rw [notB_f] at g2
      ((repeat ((conv => whnf); first | refine brT ?_ | refine brF ?_)); conv => whnf)
      refine round_end (k + 1) ⟨hlt, by rw [personsTo_succ hlt, hok, g2]; rfl⟩ (by omega) ⟨?_, ⟨rfl, trivial⟩, rfl, rfl⟩
      ((repeat ((conv => whnf); first | refine ⟨e, ?_⟩ | refine ⟨rfl, ?_⟩)); trivial)
  have hkl : k = ps.length := by rw [ltI_f] at g1; simp at g1; omega
  subst hkl
  have hpars := parsIn_of hok
  ((repeat ((conv => whnf); first | refine brT ?_ | refine brF ?_)); conv => whnf)
  intro _
  ((repeat ((conv => whnf); first | refine brT ?_ | refine brF ?_)); conv => whnf)
  refine loop_rule (α := Nat) (fun k => [(38, .int .i64 (k : Int))]) (fun k => [.box (famLV ps us)]) (fun k => us.length - k) (fun k => k ≤ us.length ∧ unionsTo ps us k = true) 0 ⟨Nat.zero_le _, rfl⟩ ?_ ?_
  · refine ⟨?_, ⟨rfl, trivial⟩, rfl, rfl⟩
    ((repeat ((conv => whnf); refine ⟨rfl, ?_⟩)); trivial)
  rintro j ⟨hj, huok⟩
  ((repeat ((conv => whnf); first | refine brT ?_ | refine brF ?_)); conv => whnf)
  (refine ⟨fun j1 => ?_, fun j1 => ?_⟩ <;> rw [j1])
  · have hlt : j < us.length := by rw [ltI_t] at j1; simp at j1; omega
    have e := step_i hlt hu'
    ((repeat ((conv => whnf); first | refine brT ?_ | refine brF ?_)); conv => whnf)
    refine ⟨j, us[j].lv, rfl, by simp [hlt], rfl, ?_⟩
    ((repeat ((conv => whnf); first | refine brT ?_ | refine brF ?_)); conv => whnf)
    refine ⟨true, by kernel_rfl, ?_⟩
    ((repeat ((conv => whnf); first | refine brT ?_ | refine brF ?_)); conv => whnf)
    refine ⟨0, j, rfl, rfl, by omega, by simp; omega, by simp [Uni.lv, LV.size, LV.sizes], ?_⟩
    ((repeat ((conv => whnf); first | refine brT ?_ | refine brF ?_)); conv => whnf)
    refine ⟨_, isUnionAfter_take ps us j us[j], ?_⟩
    ((repeat ((conv => whnf); first | refine brT ?_ | refine brF ?_)); conv => whnf)
    (refine ⟨fun j2 => ?_, fun j2 => ?_⟩ <;> rw [j2])
    · rw [notB_t] at j2
      ((repeat ((conv => whnf); first | refine brT ?_ | refine brF ?_)); conv => whnf)
      refine fin ?_
      rw [hfam, unionsTo_no hlt hlt j2]
      simp
    · rw [notB_f] at j2
      ((repeat ((conv => whnf); first | refine brT ?_ | refine brF ?_)); conv => whnf)
      refine round_end (j + 1) ⟨hlt, by rw [unionsTo_succ hlt, huok, j2]; rfl⟩ (by omega) ⟨?_, ⟨rfl, trivial⟩, rfl, rfl⟩
      ((repeat ((conv => whnf); first | refine ⟨e, ?_⟩ | refine ⟨rfl, ?_⟩)); trivial)
  have hjl : j = us.length := by rw [ltI_f] at j1; simp at j1; omega
  subst hjl
  have hfam2 : famOk ps us = shallow (depths ps) := by rw [hfam, hok, huok]; rfl
  ((repeat ((conv => whnf); first | refine brT ?_ | refine brF ?_)); conv => whnf)
  refine ⟨_, depthsOf_spec ps hl hpars, ?_⟩
  ((repeat ((conv => whnf); first | refine brT ?_ | refine brF ?_)); conv => whnf)
  intro hdn
  have hd' : (depths ps).length ≤ Go.maxLen := by simpa using hdn
  ((repeat ((conv => whnf); first | refine brT ?_ | refine brF ?_)); conv => whnf)
  refine loop_rule (α := Nat) (fun k => [(57, .int .i64 (k : Int))]) (fun k => [.box (famLV ps us)]) (fun k => (depths ps).length - k) (fun k => k ≤ (depths ps).length ∧ shallow ((depths ps).take k) = true) 0 ⟨Nat.zero_le _, rfl⟩ ?_ ?_
  · refine ⟨?_, ⟨rfl, trivial⟩, rfl, rfl⟩
    ((repeat ((conv => whnf); refine ⟨rfl, ?_⟩)); trivial)
  rintro i ⟨hi, hsh⟩
  ((repeat ((conv => whnf); first | refine brT ?_ | refine brF ?_)); conv => whnf)
  (refine ⟨fun d1 => ?_, fun d1 => ?_⟩ <;> rw [d1])
  · have hlt : i < (depths ps).length := by rw [ltI_t] at d1; simp at d1; omega
    have e := step_i hlt hd'
    ((repeat ((conv => whnf); first | refine brT ?_ | refine brF ?_)); conv => whnf)
    refine ⟨i, .int .i64 (depths ps)[i], rfl, by simp [hlt, intLV], rfl, ?_⟩
    ((repeat ((conv => whnf); first | refine brT ?_ | refine brF ?_)); conv => whnf)
    (refine ⟨fun d2 => ?_, fun d2 => ?_⟩ <;> rw [d2])
    · ((repeat ((conv => whnf); first | refine brT ?_ | refine brF ?_)); conv => whnf)
      refine fin ?_
      rw [hfam2, shallow_no hlt d2]
    · ((repeat ((conv => whnf); first | refine brT ?_ | refine brF ?_)); conv => whnf)
      refine round_end (i + 1) ⟨hlt, by rw [shallow_succ hlt, hsh, shallow_le d2]; rfl⟩ (by omega) ⟨?_, ⟨rfl, trivial⟩, rfl, rfl⟩
      ((repeat ((conv => whnf); first | refine ⟨e, ?_⟩ | refine ⟨rfl, ?_⟩)); trivial)
  · have hil : i = (depths ps).length := by rw [ltI_f] at d1; simp at d1; omega
    subst hil
    rw [List.take_length] at hsh
    ((repeat ((conv => whnf); first | refine brT ?_ | refine brF ?_)); conv => whnf)
    refine fin ?_
    rw [hfam2, hsh]

/-- Asked of the person in the family, or of the person behind those before: the same, if those before are valid. -/
theorem parentAt_eq {ps : List Per} {i : Nat} {x sex born late : Int} (hl : i < ps.length) (hok : personsTo ps i = true) (h0 : 0 ≤ born) (h1 : born ≤ 9999) (hs : (sex = 1 ∧ late = 1) ∨ (sex = 2 ∧ late = 0)) :
    parentAt ps i x sex late born = parentOk (ps.take i) x sex born := by
  unfold parentAt parentOk
  congr 1
  cases e0 : leI 0 x with
  | false => rfl
  | true =>
    rw [leI_t] at e0
    simp only [Bool.true_and]
    by_cases hx : x < i
    · have hxl : x.toNat < ps.length := by omega
      have e1 : ltI x i = true := ltI_t.2 hx
      have e2 : (ps.take i)[x.toNat]? = some ps[x.toNat] := by rw [List.getElem?_take_of_lt (by omega)]; exact List.getElem?_eq_getElem hxl
      rw [e1, e2, List.getElem?_eq_getElem hxl]
      simp only [Bool.true_and]
      have hq := personOk_spec (personsTo_get hok (i := x.toNat) (by omega) hxl)
      generalize ps[x.toNat] = q at hq ⊢
      congr 1
      congr 1
      have hd := hq.2.2.2.2.2.1
      have hb := hq.2.2.2.1
      rcases hs with ⟨rfl, rfl⟩ | ⟨rfl, rfl⟩
      · have w1 : IntKind.i64.wrap (q.died + 1) = q.died + 1 := wrap64 (by omega) (by omega)
        have w2 : IntKind.i64.wrap (born - 1) = born - 1 := wrap64 (by omega) (by omega)
        rw [show eqI (1 : Int) 1 = true from eqI_t.2 rfl]
        simp only [livedTo, w1, w2]
        congr 1
        rw [Bool.eq_iff_iff, leI_t, leI_t]
        omega
      · have w1 : IntKind.i64.wrap (q.died + 0) = q.died + 0 := wrap64 (by omega) (by omega)
        rw [show eqI (2 : Int) 1 = false from eqI_f.2 (by decide)]
        simp only [livedTo, w1]
        congr 1
        rw [Bool.eq_iff_iff, leI_t, leI_t]
        omega
    · have e1 : ltI x i = false := ltI_f.2 (by omega)
      have e2 : (ps.take i)[x.toNat]? = none := by rw [List.getElem?_eq_none]; simp; omega
      rw [e1, e2]
      rfl

theorem findFrom_fresh {n : ByteArray} : ∀ (ps : List Per) (i : Nat), (findFrom n i ps = none) ↔ (ps.all fun q => notB (eqS q.name n)) = true
  | [], _ => by simp [findFrom]
  | p :: ps, i => by
    simp only [findFrom, List.all_cons, Bool.and_eq_true]
    cases e : eqS p.name n
    · rw [findFrom_fresh ps (i + 1)]; simp [notB]
    · simp [notB]

theorem personAt_eq {ps : List Per} {i : Nat} (hl : i < ps.length) (hok : personsTo ps i = true) : personAt ps i ps[i] = personOk (ps.take i) ps[i] := by
  generalize ps[i] = p
  unfold personAt personOk fresh
  have hf := findFrom_fresh (n := p.name) (ps.take i) 0
  cases e : findFrom p.name 0 (ps.take i) with
  | some j =>
    have : ((ps.take i).all fun q => notB (eqS q.name p.name)) = false := by
      cases h : ((ps.take i).all fun q => notB (eqS q.name p.name)) with
      | false => rfl
      | true => rw [hf.2 h] at e; cases e
    rw [this]
    simp
  | none =>
    rw [hf.1 e]
    by_cases hb : 0 ≤ p.born ∧ p.born ≤ 9999
    · rw [parentAt_eq hl hok hb.1 hb.2 (.inl ⟨rfl, rfl⟩), parentAt_eq hl hok hb.1 hb.2 (.inr ⟨rfl, rfl⟩)]
      simp only [Bool.true_and]
      generalize parentOk (ps.take i) p.father 1 p.born = A
      generalize parentOk (ps.take i) p.mother 2 p.born = B
      unfold shapeOk endYear
      have : (leI 1 p.sex && leI p.sex 2) = (eqI p.sex 1 || eqI p.sex 2) := by
        rw [Bool.eq_iff_iff]; simp only [Bool.and_eq_true, Bool.or_eq_true, leI_t, eqI_t]; omega
      rw [this]
      generalize leI 0 p.born = a
      generalize leI p.born 9999 = b
      generalize isName p.name = c
      generalize (eqI p.sex 1 || eqI p.sex 2) = d
      generalize (eqI p.died (-1) || leI p.born p.died && leI p.died 9999) = e
      cases a <;> cases b <;> cases c <;> cases d <;> cases e <;> cases A <;> cases B <;> rfl
    · have hn : (leI 0 p.born && leI p.born 9999) = false := by
        cases h : (leI 0 p.born && leI p.born 9999) with
        | false => rfl
        | true => simp only [Bool.and_eq_true, leI_t] at h; exact absurd h hb
      have e1 : shapeOk p = false := by unfold shapeOk; rw [hn]; simp
      rw [e1]
      have : (leI 0 p.born && (leI p.born 9999 && endYear p.died p.born)) = false := by
        rw [← Bool.and_assoc, hn]; rfl
      rw [this]
      simp

/-- spec.IsFamily -/
theorem isFamily_spec (ps : List Per) (us : List Uni) : FSpec env.P 37 [famLV ps us] (.bool (famOk ps us)) := by
  refine FSpec_of_code env_ok (fn := Tryz.f37) Tryz.func37 rfl Tryz.call37 _ _ ?_
  ((repeat ((conv => whnf); first | refine brT ?_ | refine brF ?_)); conv => whnf)
  intro hpn
  ((repeat ((conv => whnf); first | refine brT ?_ | refine brF ?_)); conv => whnf)
  (refine ⟨fun h1 => ?_, fun h1 => ?_⟩ <;> rw [h1])
  · ((repeat ((conv => whnf); first | refine brT ?_ | refine brF ?_)); conv => whnf)
    refine fin ?_
    have : decide (ps.length ≤ 40) = false := by rw [ltI_t] at h1; simp at h1; simp; omega
    simp [famOk, this]
  have hl : ps.length ≤ 40 := by rw [ltI_f] at h1; simp at h1; omega
  ((repeat ((conv => whnf); first | refine brT ?_ | refine brF ?_)); conv => whnf)
  intro hun
  ((repeat ((conv => whnf); first | refine brT ?_ | refine brF ?_)); conv => whnf)
  (refine ⟨fun h2 => ?_, fun h2 => ?_⟩ <;> rw [h2])
  · ((repeat ((conv => whnf); first | refine brT ?_ | refine brF ?_)); conv => whnf)
    refine fin ?_
    have : decide (us.length ≤ 60) = false := by rw [ltI_t] at h2; simp at h2; simp; omega
    simp [famOk, this]
  have hul : us.length ≤ 60 := by rw [ltI_f] at h2; simp at h2; omega
  have hp' : ps.length ≤ Go.maxLen := by simpa using hpn
  have hu' : us.length ≤ Go.maxLen := by simpa using hun
  have hfam : famOk ps us = (personsTo ps ps.length && (unionsTo ps us us.length && shallow (depths ps))) := by simp [famOk, hl, hul]
  ((repeat ((conv => whnf); first | refine brT ?_ | refine brF ?_)); conv => whnf)
  intro _
  ((repeat ((conv => whnf); first | refine brT ?_ | refine brF ?_)); conv => whnf)
  refine loop_rule (α := Nat) (fun k => [(20, .int .i64 (k : Int))]) (fun k => [.box (famLV ps us)]) (fun k => ps.length - k) (fun k => k ≤ ps.length ∧ personsTo ps k = true) 0 ⟨Nat.zero_le _, rfl⟩ ?_ ?_
  · refine ⟨?_, ⟨rfl, trivial⟩, rfl, rfl⟩
    ((repeat ((conv => whnf); refine ⟨rfl, ?_⟩)); trivial)
  rintro k ⟨hk, hok⟩
  ((repeat ((conv => whnf); first | refine brT ?_ | refine brF ?_)); conv => whnf)
  (refine ⟨fun g1 => ?_, fun g1 => ?_⟩ <;> rw [g1])
  · have hlt : k < ps.length := by rw [ltI_t] at g1; simp at g1; omega
    have e := step_i hlt hp'
    have hpe := personAt_eq hlt hok
    ((repeat ((conv => whnf); first | refine brT ?_ | refine brF ?_)); conv => whnf)
    refine ⟨_, l1Person_spec ps us k hlt hl, ?_⟩
    rw [hpe]
    ((repeat ((conv => whnf); first | refine brT ?_ | refine brF ?_)); conv => whnf)
    (refine ⟨fun g2 => ?_, fun g2 => ?_⟩ <;> rw [g2])
    · rw [notB_t] at g2
      ((repeat ((conv => whnf); first | refine brT ?_ | refine brF ?_)); conv => whnf)
      refine fin ?_
      rw [hfam, personsTo_no hlt hlt g2]
      rfl
    · rw [notB_f] at g2
      ((repeat ((conv => whnf); first | refine brT ?_ | refine brF ?_)); conv => whnf)
      refine round_end (k + 1) ⟨hlt, by rw [personsTo_succ hlt, hok, g2]; rfl⟩ (by omega) ⟨?_, ⟨rfl, trivial⟩, rfl, rfl⟩
      ((repeat ((conv => whnf); first | refine ⟨e, ?_⟩ | refine ⟨rfl, ?_⟩)); trivial)
  have hkl : k = ps.length := by rw [ltI_f] at g1; simp at g1; omega
  subst hkl
  have hpars := parsIn_of hok
  ((repeat ((conv => whnf); first | refine brT ?_ | refine brF ?_)); conv => whnf)
  refine ⟨_, l1Depths_spec ps us hl hpars, ?_⟩
  ((repeat ((conv => whnf); first | refine brT ?_ | refine brF ?_)); conv => whnf)
  intro hdn
  have hd' : (depths ps).length ≤ Go.maxLen := by simpa using hdn
  ((repeat ((conv => whnf); first | refine brT ?_ | refine brF ?_)); conv => whnf)
  refine loop_rule (α := Nat) (fun k => [(31, .int .i64 (k : Int))]) (fun k => [.box (famLV ps us)]) (fun k => (depths ps).length - k) (fun k => k ≤ (depths ps).length ∧ shallow ((depths ps).take k) = true) 0 ⟨Nat.zero_le _, rfl⟩ ?_ ?_
  · refine ⟨?_, ⟨rfl, trivial⟩, rfl, rfl⟩
    ((repeat ((conv => whnf); refine ⟨rfl, ?_⟩)); trivial)
  rintro i ⟨hi, hsh⟩
  ((repeat ((conv => whnf); first | refine brT ?_ | refine brF ?_)); conv => whnf)
  (refine ⟨fun d1 => ?_, fun d1 => ?_⟩ <;> rw [d1])
  · have hlt : i < (depths ps).length := by rw [ltI_t] at d1; simp at d1; omega
    have e := step_i hlt hd'
    ((repeat ((conv => whnf); first | refine brT ?_ | refine brF ?_)); conv => whnf)
    refine ⟨i, .int .i64 (depths ps)[i], rfl, by simp [hlt, intLV], rfl, ?_⟩
    ((repeat ((conv => whnf); first | refine brT ?_ | refine brF ?_)); conv => whnf)
    (refine ⟨fun d2 => ?_, fun d2 => ?_⟩ <;> rw [d2])
    · ((repeat ((conv => whnf); first | refine brT ?_ | refine brF ?_)); conv => whnf)
      refine fin ?_
      rw [hfam, shallow_no hlt d2]
      simp
    · ((repeat ((conv => whnf); first | refine brT ?_ | refine brF ?_)); conv => whnf)
      refine round_end (i + 1) ⟨hlt, by rw [shallow_succ hlt, hsh, shallow_le d2]; rfl⟩ (by omega) ⟨?_, ⟨rfl, trivial⟩, rfl, rfl⟩
      ((repeat ((conv => whnf); first | refine ⟨e, ?_⟩ | refine ⟨rfl, ?_⟩)); trivial)
  have hil : i = (depths ps).length := by rw [ltI_f] at d1; simp at d1; omega
  subst hil
  rw [List.take_length] at hsh
  ((repeat ((conv => whnf); first | refine brT ?_ | refine brF ?_)); conv => whnf)
  intro _
  ((repeat ((conv => whnf); first | refine brT ?_ | refine brF ?_)); conv => whnf)
  refine loop_rule (α := Nat) (fun k => [(41, .int .i64 (k : Int))]) (fun k => [.box (famLV ps us)]) (fun k => us.length - k) (fun k => k ≤ us.length ∧ unionsTo ps us k = true) 0 ⟨Nat.zero_le _, rfl⟩ ?_ ?_
  · refine ⟨?_, ⟨rfl, trivial⟩, rfl, rfl⟩
    ((repeat ((conv => whnf); refine ⟨rfl, ?_⟩)); trivial)
  rintro j ⟨hj, huok⟩
  ((repeat ((conv => whnf); first | refine brT ?_ | refine brF ?_)); conv => whnf)
  (refine ⟨fun j1 => ?_, fun j1 => ?_⟩ <;> rw [j1])
  · have hlt : j < us.length := by rw [ltI_t] at j1; simp at j1; omega
    have e := step_i hlt hu'
    ((repeat ((conv => whnf); first | refine brT ?_ | refine brF ?_)); conv => whnf)
    refine ⟨_, l1Union_spec ps us j hlt hl hul, ?_⟩
    ((repeat ((conv => whnf); first | refine brT ?_ | refine brF ?_)); conv => whnf)
    (refine ⟨fun j2 => ?_, fun j2 => ?_⟩ <;> rw [j2])
    · rw [notB_t] at j2
      ((repeat ((conv => whnf); first | refine brT ?_ | refine brF ?_)); conv => whnf)
      refine fin ?_
      rw [hfam, unionsTo_no hlt hlt j2]
      simp
    · rw [notB_f] at j2
      ((repeat ((conv => whnf); first | refine brT ?_ | refine brF ?_)); conv => whnf)
      refine round_end (j + 1) ⟨hlt, by rw [unionsTo_succ hlt, huok, j2]; rfl⟩ (by omega) ⟨?_, ⟨rfl, trivial⟩, rfl, rfl⟩
      ((repeat ((conv => whnf); first | refine ⟨e, ?_⟩ | refine ⟨rfl, ?_⟩)); trivial)
  have hjl : j = us.length := by rw [ltI_f] at j1; simp at j1; omega
  subst hjl
  ((repeat ((conv => whnf); first | refine brT ?_ | refine brF ?_)); conv => whnf)
  refine fin ?_
  rw [hfam, hok, huok, hsh]
  rfl
end Go.Proofs.YtbiagkccgijdlaaGreat


namespace Go.Proofs.YtbiagkccgijdlaaGreat
open Go.Lg
set_option maxHeartbeats 800000
set_option maxRecDepth 10000
set_option linter.unusedVariables false
set_option linter.unusedSimpArgs false

/-- The family is valid and has the person. -/
def hasP (ps : List Per) (us : List Uni) (p : Int) : Bool := leI 0 p && (ltI p (ps.length : Int) && famOk ps us)
theorem l1Has_spec (ps : List Per) (us : List Uni) (p : Int) : FSpec env.P 24 [famLV ps us, .int .i64 p] (.bool (hasP ps us p)) := by
  refine FSpec_of_code env_ok (fn := Tryz.f24) Tryz.func24 rfl Tryz.call24 _ _ ?_
  ((repeat ((conv => whnf); first | refine brT ?_ | refine brF ?_)); conv => whnf)
  (refine ⟨fun h1 => ?_, fun h1 => ?_⟩ <;> rw [h1])
  · ((repeat ((conv => whnf); first | refine brT ?_ | refine brF ?_)); conv => whnf)
    intro hn
    ((repeat' (((repeat ((conv => whnf); first | refine brT ?_ | refine brF ?_)); conv => whnf); first | (refine And.intro ?_ ?_ <;> (intro h; rw [h]; revert h; intro _)) | (refine Exists.intro true (And.intro (a := drawB _ _ = true) (by kernel_rfl) ?_)) | (refine Exists.intro _ (And.intro (isFamily_spec ps us) ?_)))); all_goals ((repeat ((conv => whnf); first | refine brT ?_ | refine brF ?_)); conv => whnf))
    all_goals (refine fin ?_; simp_all [hasP])
  · ((repeat ((conv => whnf); first | refine brT ?_ | refine brF ?_)); conv => whnf)
    refine fin ?_; simp [hasP, h1]
theorem hasPerson_spec (ps : List Per) (us : List Uni) (p : Int) : FSpec env.P 29 [famLV ps us, .int .i64 p] (.bool (hasP ps us p)) := by
  refine FSpec_of_code env_ok (fn := Tryz.f29) Tryz.func29 rfl Tryz.call29 _ _ ?_
  ((repeat ((conv => whnf); first | refine brT ?_ | refine brF ?_)); conv => whnf)
  (refine ⟨fun h1 => ?_, fun h1 => ?_⟩ <;> rw [h1])
  · ((repeat ((conv => whnf); first | refine brT ?_ | refine brF ?_)); conv => whnf)
    intro hn
    ((repeat' (((repeat ((conv => whnf); first | refine brT ?_ | refine brF ?_)); conv => whnf); first | (refine And.intro ?_ ?_ <;> (intro h; rw [h]; revert h; intro _)) | (refine Exists.intro true (And.intro (a := drawB _ _ = true) (by kernel_rfl) ?_)) | (refine Exists.intro _ (And.intro (isFamily_impl ps us) ?_)))); all_goals ((repeat ((conv => whnf); first | refine brT ?_ | refine brF ?_)); conv => whnf))
    all_goals (refine fin ?_; simp_all [hasP])
  · ((repeat ((conv => whnf); first | refine brT ?_ | refine brF ?_)); conv => whnf)
    refine fin ?_; simp [hasP, h1]
theorem hasP_lt {ps : List Per} {us : List Uni} {p : Int} (h : hasP ps us p = true) : 0 ≤ p ∧ p.toNat < ps.length ∧ famOk ps us = true := by
  unfold hasP at h
  simp only [Bool.and_eq_true, leI_t, ltI_t] at h
  exact ⟨h.1, by omega, h.2.2⟩
theorem famOk_parts {ps : List Per} {us : List Uni} (h : famOk ps us = true) : ps.length ≤ 40 ∧ us.length ≤ 60 ∧ personsTo ps ps.length = true ∧ unionsTo ps us us.length = true ∧ shallow (depths ps) = true := by
  unfold famOk at h
  simpa only [Bool.and_eq_true, decide_eq_true_eq] using h

/-- IsElder -/
def elder (ps : List Per) (a b : Int) : Bool := match ps[a.toNat]?, ps[b.toNat]? with
  | some x, some y => ltI x.born y.born || (eqI x.born y.born && ltI a b)
  | _, _ => false
theorem l1Elder_spec (ps : List Per) (us : List Uni) (a b : Int) (a0 : 0 ≤ a) (al : a.toNat < ps.length) (b0 : 0 ≤ b) (bl : b.toNat < ps.length) :
    FSpec env.P 172 [famLV ps us, .int .i64 a, .int .i64 b] (.bool (elder ps a b)) := by
  refine FSpec_of_code env_ok (fn := Tryz.f172) Tryz.func172 rfl Tryz.call172 _ _ ?_
  have he : elder ps a b = (ltI ps[a.toNat].born ps[b.toNat].born || (eqI ps[a.toNat].born ps[b.toNat].born && ltI a b)) := by simp [elder, al, bl]
  ((repeat ((conv => whnf); first | refine brT ?_ | refine brF ?_)); conv => whnf)
  refine ⟨a.toNat, ps[a.toNat].lv, by omega, by simp [al], rfl, ?_⟩
  ((repeat ((conv => whnf); first | refine brT ?_ | refine brF ?_)); conv => whnf)
  refine ⟨b.toNat, ps[b.toNat].lv, by omega, by simp [bl], rfl, ?_⟩
  ((repeat' (((repeat ((conv => whnf); first | refine brT ?_ | refine brF ?_)); conv => whnf); (refine And.intro ?_ ?_ <;> (intro h; rw [h]; revert h; intro _)))); all_goals ((repeat ((conv => whnf); first | refine brT ?_ | refine brF ?_)); conv => whnf))
  all_goals (refine fin ?_; simp [*])
def cmpI (a b : Int) : Int := match ltI a b with | true => -1 | false => match ltI b a with | true => 1 | false => 0
theorem isNaN_spec (a : Int) : FSpec env.P 183 [.int .i64 a] (.bool false) := by
  refine FSpec_of_code env_ok (fn := Tryz.f183) Tryz.func183 rfl Tryz.call183 _ _ ?_
  ((repeat ((conv => whnf); first | refine brT ?_ | refine brF ?_)); conv => whnf)
  exact fin (by simp [notB, eqI_refl])
theorem compare_spec (a b : Int) : FSpec env.P 167 [.int .i64 a, .int .i64 b] (.int .i64 (cmpI a b)) := by
  refine FSpec_of_code env_ok (fn := Tryz.f167) Tryz.func167 rfl Tryz.call167 _ _ ?_
  ((repeat' (((repeat ((conv => whnf); first | refine brT ?_ | refine brF ?_)); conv => whnf); first | (refine And.intro ?_ ?_ <;> (intro h; rw [h]; revert h; intro _)) | (refine Exists.intro true (And.intro (a := drawB _ _ = true) (by kernel_rfl) ?_)) | (refine Exists.intro _ (And.intro (isNaN_spec _) ?_)))); all_goals ((repeat ((conv => whnf); first | refine brT ?_ | refine brF ?_)); conv => whnf))
  all_goals
    refine ⟨rfl, ?_, List.nodup_nil⟩
    simp [cmpI, *]
def orI (a b : Int) : Int := match eqI a 0 with | true => b | false => a
theorem or_spec (a b : Int) : FSpec env.P 166 [.sl [.int .i64 a, .int .i64 b]] (.int .i64 (orI a b)) := by
  refine FSpec_of_code env_ok (fn := Tryz.f166) Tryz.func166 rfl Tryz.call166 _ _ ?_
  ((repeat ((conv => whnf); first | refine brT ?_ | refine brF ?_)); conv => whnf)
  intro _
  ((repeat ((conv => whnf); first | refine brT ?_ | refine brF ?_)); conv => whnf)
  refine loop_rule (α := Nat) (fun k => [(8, .int .i64 (k : Int))]) (fun k => []) (fun k => 2 - k) (fun k => k ≤ 2 ∧ (1 ≤ k → a = 0) ∧ (2 ≤ k → b = 0)) 0 ⟨by omega, by omega, by omega⟩ ?_ ?_
  · refine ⟨?_, trivial, rfl, rfl⟩
    ((repeat ((conv => whnf); refine ⟨rfl, ?_⟩)); trivial)
  rintro k ⟨hk, ha, hb⟩
  ((repeat ((conv => whnf); first | refine brT ?_ | refine brF ?_)); conv => whnf)
  (refine ⟨fun h1 => ?_, fun h1 => ?_⟩ <;> rw [h1])
  · have hlt : k < 2 := by rw [ltI_t] at h1; simp at h1; omega
    have e : LV.int .i64 (IntKind.i64.wrap ((k : Int) + 1)) = LV.int .i64 ((k + 1 : Nat) : Int) := step_i hlt (by decide)
    ((repeat ((conv => whnf); first | refine brT ?_ | refine brF ?_)); conv => whnf)
    refine ⟨k, .int .i64 ([a, b][k]'hlt), rfl, ?_, rfl, ?_⟩
    · match k, hlt with
      | 0, _ => rfl
      | 1, _ => rfl
    ((repeat ((conv => whnf); first | refine brT ?_ | refine brF ?_)); conv => whnf)
    (refine ⟨fun h2 => ?_, fun h2 => ?_⟩ <;> rw [h2])
    · ((repeat ((conv => whnf); first | refine brT ?_ | refine brF ?_)); conv => whnf)
      refine ⟨rfl, ?_, List.nodup_nil⟩
      rw [notB_t] at h2
      match k, hlt, h2 with
      | 0, _, h2 => simp at h2; simp [orI, h2]
      | 1, _, h2 => have := ha (by omega); subst this; simp [orI, eqI_refl]
    · rw [notB_f, eqI_t] at h2
      ((repeat ((conv => whnf); first | refine brT ?_ | refine brF ?_)); conv => whnf)
      refine round_end (k + 1) ⟨hlt, fun _ => ?_, fun h => ?_⟩ (by omega) ⟨?_, trivial, rfl, rfl⟩
      · match k, hlt, h2 with
        | 0, _, h2 => simpa using h2
        | 1, _, h2 => exact ha (by omega)
      · match k, hlt, h2, h with
        | 1, _, h2, _ => simpa using h2
      · ((repeat ((conv => whnf); first | refine ⟨e, ?_⟩ | refine ⟨rfl, ?_⟩)); trivial)
  · have h3 : k = 2 := by rw [ltI_f] at h1; simp at h1; omega
    subst h3
    have := ha (by omega)
    have := hb (by omega)
    subst a; subst b
    ((repeat ((conv => whnf); first | refine brT ?_ | refine brF ?_)); conv => whnf)
    exact ⟨rfl, by simp [orI, eqI_refl], List.nodup_nil⟩
def ageI (ps : List Per) (a b : Int) : Int := match ps[a.toNat]?, ps[b.toNat]? with
  | some x, some y => orI (cmpI x.born y.born) (cmpI a b)
  | _, _ => 0
theorem compareAge_spec (ps : List Per) (us : List Uni) (a b : Int) (a0 : 0 ≤ a) (al : a.toNat < ps.length) (b0 : 0 ≤ b) (bl : b.toNat < ps.length) :
    FSpec env.P 144 [famLV ps us, .int .i64 a, .int .i64 b] (.int .i64 (ageI ps a b)) := by
  refine FSpec_of_code env_ok (fn := Tryz.f144) Tryz.func144 rfl Tryz.call144 _ _ ?_
  have he : ageI ps a b = orI (cmpI ps[a.toNat].born ps[b.toNat].born) (cmpI a b) := by simp [ageI, al, bl]
  ((repeat ((conv => whnf); first | refine brT ?_ | refine brF ?_)); conv => whnf)
  refine ⟨true, by kernel_rfl, ?_⟩
  ((repeat ((conv => whnf); first | refine brT ?_ | refine brF ?_)); conv => whnf)
  refine ⟨a.toNat, ps[a.toNat].lv, by omega, by simp [al], rfl, ?_⟩
  ((repeat ((conv => whnf); first | refine brT ?_ | refine brF ?_)); conv => whnf)
  refine ⟨b.toNat, ps[b.toNat].lv, by omega, by simp [bl], rfl, ?_⟩
  ((repeat ((conv => whnf); first | refine brT ?_ | refine brF ?_)); conv => whnf)
  refine ⟨_, compare_spec _ _, ?_⟩
  ((repeat ((conv => whnf); first | refine brT ?_ | refine brF ?_)); conv => whnf)
  refine ⟨_, compare_spec _ _, ?_⟩
  ((repeat ((conv => whnf); first | refine brT ?_ | refine brF ?_)); conv => whnf)
  refine ⟨rfl, ?_⟩
  ((repeat ((conv => whnf); first | refine brT ?_ | refine brF ?_)); conv => whnf)
  refine ⟨_, or_spec _ _, ?_⟩
  ((repeat ((conv => whnf); first | refine brT ?_ | refine brF ?_)); conv => whnf)
  exact ⟨rfl, he.symm, List.nodup_nil⟩
theorem age_elder (ps : List Per) (a b : Int) : ltI (ageI ps a b) 0 = elder ps a b := by
  unfold ageI elder
  split
  · rename_i x y _ _
    rw [Bool.eq_iff_iff]
    simp only [ltI_t, Bool.or_eq_true, Bool.and_eq_true, eqI_t]
    unfold orI cmpI
    grind [ltI_t, ltI_f, eqI_t, eqI_f]
  · rw [ltI_f]; omega
/-- IsAlive -/
def aliveIn (p : Per) (y : Int) : Bool := leI p.born y && (eqI p.died (-1) || ltI y p.died)
def alive (ps : List Per) (us : List Uni) (p y : Int) : Bool := hasP ps us p && match ps[p.toNat]? with | some x => aliveIn x y | none => false
end Go.Proofs.YtbiagkccgijdlaaGreat

namespace Go.Proofs.YtbiagkccgijdlaaGreat
open Go.Lg
set_option maxHeartbeats 1600000
set_option maxRecDepth 10000
set_option linter.unusedVariables false
set_option linter.unusedSimpArgs false

/-! A rule: its name, its sex and place, the steps that it replaces and by which. -/
structure Rul where
  name : ByteArray
  sex : Int
  place : Int
  fr : List Pr
  to : List Pr
def Rul.lv (r : Rul) : LV := .st [.str r.name, .int .i64 r.sex, .int .i64 r.place, .sl (r.fr.map Pr.lv), .sl (r.to.map Pr.lv)]
def Rul.own (r : Rul) (e : Nat) : LV := .st [.str r.name, .int .i64 r.sex, .int .i64 r.place, .own e 2 (r.fr.map Pr.lv), .own e 2 (r.to.map Pr.lv)]
def Rul.eq (r s : Rul) : Bool := eqS r.name s.name && (eqI r.sex s.sex && (eqI r.place s.place && (eqList Pr.eq r.fr s.fr && eqList Pr.eq r.to s.to)))
theorem Rul.eq_refl (r : Rul) : r.eq r = true := by simp [Rul.eq, eqS_refl, eqI_refl, eqPairS_refl]

/-! Comparisons of steps. -/
end Go.Proofs.YtbiagkccgijdlaaGreat


namespace Go.Proofs.YtbiagkccgijdlaaGreat
open Go.Lg
set_option maxHeartbeats 1600000
set_option maxRecDepth 10000
set_option linter.unusedVariables false
set_option linter.unusedSimpArgs false

theorem Weak.idn {n0 : Nat} {ts : List LV} {H : List Blk} (h1 : wk ts ts) (h2 : wkH n0 H H) (h3 : (scs (below H.length) ts && H.all (scB (below H.length))) = true) : Weak n0 ts H ts H := by
  simp only [Bool.and_eq_true] at h3
  exact .inl ⟨h1, h2, h3.1, h3.2⟩

end Go.Proofs.YtbiagkccgijdlaaGreat

namespace Go.Proofs.YtbiagkccgijdlaaGreat
open Go.Lg Go.Pm
set_option maxHeartbeats 6400000
set_option maxRecDepth 10000
set_option linter.unusedVariables false
set_option linter.unusedSimpArgs false

/-! ### Types as permutations -/
theorem idx {q : List Int} {y : Int} (e1 : 0 ≤ y) (e2 : y.toNat < q.length) : y = ((y.toNat : Nat) : Int) ∧ (q.map intLV)[y.toNat]? = some (intLV (q.getD y.toNat 0)) :=
  ⟨by omega, by rw [List.getElem?_map, List.getElem?_eq_getElem e2, getD_lt e2]; rfl⟩
end Go.Proofs.YtbiagkccgijdlaaGreat


namespace Go.Proofs.YtbiagkccgijdlaaGreat
open Go.Lg Go.Pm
set_option maxHeartbeats 3200000
set_option maxRecDepth 10000
set_option linter.unusedVariables false
set_option linter.unusedSimpArgs false

/-! ### Founders -/
end Go.Proofs.YtbiagkccgijdlaaGreat


namespace Go.Proofs.YtbiagkccgijdlaaGreat
open Go.Lg Go.Pm
set_option maxHeartbeats 3200000
set_option maxRecDepth 10000
set_option linter.unusedVariables false
set_option linter.unusedSimpArgs false

theorem hasP_in {ps : List Per} {us : List Uni} {p : Int} (h : hasP ps us p = true) : 0 ≤ p ∧ p.toNat < ps.length ∧ ps.length ≤ 40 ∧ parsIn ps := by
  obtain ⟨h0, h1, h2⟩ := hasP_lt h
  obtain ⟨k1, _, k2, _⟩ := famOk_parts h2
  exact ⟨h0, h1, k1, parsIn_of k2⟩
end Go.Proofs.YtbiagkccgijdlaaGreat

namespace Go.Proofs.YtbiagkccgijdlaaGreat
open Go.Lg
set_option maxHeartbeats 800000
set_option maxRecDepth 10000
set_option linter.unusedVariables false
set_option linter.unusedSimpArgs false

/-! UnionEnd -/
/-- The union's two persons are of the family. -/
structure UniIn (ps : List Per) (u : Uni) : Prop where
  m0 : 0 ≤ u.husband
  ml : u.husband.toNat < ps.length
  w0 : 0 ≤ u.wife
  wl : u.wife.toNat < ps.length
/-- Years are years. -/
structure UniYears (ps : List Per) (u : Uni) (h : UniIn ps u) : Prop where
  t : u.till = -1 ∨ 0 ≤ u.till
  m : (ps[u.husband.toNat]'h.ml).died = -1 ∨ 0 ≤ (ps[u.husband.toNat]'h.ml).died
  w : (ps[u.wife.toNat]'h.wl).died = -1 ∨ 0 ≤ (ps[u.wife.toNat]'h.wl).died

end Go.Proofs.YtbiagkccgijdlaaGreat

namespace Go.Proofs.YtbiagkccgijdlaaGreat
open Go.Lg Go.Pm
set_option maxHeartbeats 3200000
set_option maxRecDepth 10000
set_option linter.unusedVariables false
set_option linter.unusedSimpArgs false

/-! ### Exogamy -/
end Go.Proofs.YtbiagkccgijdlaaGreat

namespace Go.Proofs.YtbiagkccgijdlaaGreat
open Go.Lg Go.Pm
set_option maxHeartbeats 3200000
set_option maxRecDepth 10000
set_option linter.unusedVariables false
set_option linter.unusedSimpArgs false

/-! ### The eldest first -/
def bornD (ps : List Per) (a : Nat) : Int := match ps[a]? with | some p => p.born | none => 0
def elT (ps : List Per) (a b : Nat) : Bool := decide (bornD ps a < bornD ps b ∨ (bornD ps a = bornD ps b ∧ a < b))
theorem elT_t {ps : List Per} {a b : Nat} : elT ps a b = true ↔ bornD ps a < bornD ps b ∨ (bornD ps a = bornD ps b ∧ a < b) := by unfold elT; simp
theorem elT_f {ps : List Per} {a b : Nat} : elT ps a b = false ↔ ¬ (bornD ps a < bornD ps b ∨ (bornD ps a = bornD ps b ∧ a < b)) := by unfold elT; simp
theorem elder_T {ps : List Per} {a b : Nat} (ha : a < ps.length) (hb : b < ps.length) : elder ps (a : Int) (b : Int) = elT ps a b := by
  rw [Bool.eq_iff_iff, elT_t]
  simp only [elder, bornD, Int.toNat_natCast, List.getElem?_eq_getElem ha, List.getElem?_eq_getElem hb, Bool.or_eq_true, Bool.and_eq_true, ltI_t, eqI_t]
  omega
theorem elT_on (ps : List Per) (N : Nat) : LtOn N (elT ps) where
  irr x _ := by rw [elT_f]; omega
  tr x y z _ _ _ h k := by rw [elT_t] at *; omega
  nt x y z _ _ _ h k := by rw [elT_f] at *; omega
  tot x y _ _ h k := by rw [elT_f] at *; omega
def wantL (q : Nat → Bool) (n : Nat) : List Nat := (List.range n).filter q
theorem wantL_succ (q : Nat → Bool) (n : Nat) : wantL q (n + 1) = wantL q n ++ (match q n with | true => [n] | false => []) := by
  unfold wantL
  rw [List.range_succ, List.filter_append]
  congr 1
theorem wantL_lt {q : Nat → Bool} {n x : Nat} (h : x ∈ wantL q n) : x < n := List.mem_range.1 (List.mem_filter.1 h).1
theorem wantL_len (q : Nat → Bool) (n : Nat) : (wantL q n).length ≤ n := by
  unfold wantL; exact Nat.le_trans (List.length_filter_le _ _) (by simp)
theorem wantL_ext {q q' : Nat → Bool} {n : Nat} (h : ∀ i, i < n → q i = q' i) : wantL q n = wantL q' n := List.filter_congr fun i hi => h i (List.mem_range.1 hi)
def eldL (ps : List Per) (q : Nat → Bool) (n : Nat) : List Nat := (wantL q n).mergeSort fun a b => !elT ps b a
theorem eldL_len (ps : List Per) (q : Nat → Bool) (n : Nat) : (eldL ps q n).length ≤ n := by unfold eldL; rw [List.length_mergeSort]; exact wantL_len q n
/-- A person in the place among others. -/
def insA (ps : List Per) (p : Nat) : List Nat → List Nat
  | [] => [p]
  | q :: qs => match elT ps p q with | true => p :: q :: qs | false => q :: insA ps p qs
theorem insA_len (ps : List Per) (p : Nat) : ∀ l, (insA ps p l).length = l.length + 1
  | [] => rfl
  | q :: qs => by
    unfold insA
    split
    · rfl
    · simp [insA_len ps p qs]
theorem insA_yes {ps : List Per} {p : Nat} : ∀ (l m : List Nat), l.any (elT ps p) = true → insA ps p (l ++ m) = insA ps p l ++ m
  | [], m, h => by simp at h
  | q :: qs, m, h => by
    simp only [List.cons_append, insA]
    cases e : elT ps p q
    · rw [List.any_cons, e, Bool.false_or] at h
      simp only [List.cons_append, insA_yes qs m h]
    · rfl
theorem insA_no {ps : List Per} {p : Nat} : ∀ (l m : List Nat), l.any (elT ps p) = false → insA ps p (l ++ m) = l ++ insA ps p m
  | [], m, h => rfl
  | q :: qs, m, h => by
    rw [List.any_cons, Bool.or_eq_false_iff] at h
    simp only [List.cons_append, insA, h.1, insA_no qs m h.2]
theorem insA_perm {ps : List Per} {p : Nat} : ∀ l, (insA ps p l).Perm (p :: l)
  | [] => .refl _
  | q :: qs => by
    unfold insA
    split
    · exact .refl _
    · exact ((insA_perm qs).cons q).trans (.swap _ _ _)
theorem insA_pw {ps : List Per} {p : Nat} : ∀ l, l.Pairwise (fun a b => elT ps a b = true) → (∀ q ∈ l, q ≠ p) → (insA ps p l).Pairwise (fun a b => elT ps a b = true)
  | [], _, _ => by simp [insA]
  | q :: qs, h, hne => by
    rw [List.pairwise_cons] at h
    unfold insA
    split
    · rename_i e
      rw [List.pairwise_cons, List.pairwise_cons]
      refine ⟨fun x hx => ?_, h.1, h.2⟩
      rcases List.mem_cons.1 hx with rfl | hx
      · exact e
      · have k := h.1 x hx
        rw [elT_t] at *; omega
    · rename_i e
      rw [List.pairwise_cons]
      refine ⟨fun x hx => ?_, insA_pw qs h.2 fun y hy => hne y (by simp [hy])⟩
      rcases List.mem_cons.1 ((insA_perm qs).mem_iff.1 hx) with rfl | hx
      · have k := hne q (by simp)
        rw [elT_f] at e
        rw [elT_t]; omega
      · exact h.1 x hx
/-- The persons that are wanted, put in their places one by one. -/
def bySt (ps : List Per) (q : Nat → Bool) : Nat → List Nat
  | 0 => []
  | k + 1 => match q k with | true => insA ps k (bySt ps q k) | false => bySt ps q k
theorem bySt_perm (ps : List Per) (q : Nat → Bool) : ∀ k, (bySt ps q k).Perm (wantL q k)
  | 0 => by simp [bySt, wantL]
  | k + 1 => by
    rw [wantL_succ]
    unfold bySt
    cases h : q k
    · simpa using bySt_perm ps q k
    · exact (insA_perm _).trans (((bySt_perm ps q k).cons k).trans (List.perm_append_comm (l₁ := [k])))
theorem bySt_pw (ps : List Per) (q : Nat → Bool) : ∀ k, (bySt ps q k).Pairwise (fun a b => elT ps a b = true)
  | 0 => by simp [bySt]
  | k + 1 => by
    unfold bySt
    split
    · refine insA_pw _ (bySt_pw ps q k) fun x hx => ?_
      have := wantL_lt ((bySt_perm ps q k).mem_iff.1 hx)
      omega
    · exact bySt_pw ps q k
theorem wantL_nodup (q : Nat → Bool) (n : Nat) : (wantL q n).Nodup := List.Nodup.sublist List.filter_sublist List.nodup_range
theorem bySt_eld (ps : List Per) (q : Nat → Bool) (n : Nat) : bySt ps q n = eldL ps q n := by
  have h1 := bySt_pw ps q n
  have h2 : (eldL ps q n).Pairwise (fun a b => elT ps a b = true) := by
    have hp := List.pairwise_mergeSort (le := fun a b => !elT ps b a) (fun a b c h k => by
      simp only [Bool.not_eq_true'] at *
      rw [elT_f] at *; omega) (fun a b => by
      simp only [Bool.or_eq_true, Bool.not_eq_true']
      rw [elT_f, elT_f]; omega) (wantL q n)
    have hn : (eldL ps q n).Nodup := (List.mergeSort_perm _ _).nodup_iff.2 (wantL_nodup q n)
    refine (List.Pairwise.and hp hn).imp fun {a b} h => ?_
    simp only [Bool.not_eq_true'] at h
    obtain ⟨h, hne⟩ := h
    rw [elT_f] at h
    rw [elT_t]; omega
  refine List.Perm.eq_of_pairwise (le := fun a b => elT ps a b = true) (fun a b _ _ h k => ?_) h1 h2 ((bySt_perm ps q n).trans (List.mergeSort_perm _ _).symm)
  rw [elT_t] at h k; omega
theorem bySt_len (ps : List Per) (q : Nat → Bool) (k : Nat) : (bySt ps q k).length ≤ k := by rw [(bySt_perm ps q k).length_eq]; exact wantL_len q k
theorem bySt_lt {ps : List Per} {q : Nat → Bool} {k x : Nat} (h : x ∈ bySt ps q k) : x < k := wantL_lt ((bySt_perm ps q k).mem_iff.1 h)
def outA (ps : List Per) (p : Nat) (l : List Nat) (k : Nat) : List Nat := match (l.take k).any (elT ps p) with | true => insA ps p (l.take k) | false => l.take k
theorem outA_len (ps : List Per) (p : Nat) (l : List Nat) (k : Nat) : (outA ps p l k).length ≤ k + 1 := by
  unfold outA
  split
  · rw [insA_len]; simp; omega
  · simp; omega
theorem nats_len (l : List Nat) : (l.map natLV).length = l.length := List.length_map ..
def natsSl (l : List Nat) : LV := .sl (l.map natLV)
theorem l1ByAge_h (ps : List Per) (us : List Uni) (l : List Nat) (p : Nat) (hp : p < ps.length) (hl : ∀ q ∈ l, q < ps.length) (hb : l.length ≤ 1048576) :
    HSpec env.P 163 [famLV ps us, natsSl l, .int .i64 (p : Int)] [] (.hs 0 ((insA ps p l).map natLV).length) [.arr 3 1 ((insA ps p l).map natLV)] := by
  refine HSpec_of_code (E := env.x [] 0) env_ok.x (fn := Tryz.f163) Tryz.func163 rfl Tryz.call163 _ _ _ _ ?_
  have hL := nats_len l
  ((repeat ((conv => whnf); first | refine brT ?_ | refine brF ?_)); conv => whnf)
  intro hm
  have hm' : l.length ≤ Go.maxLen := by rw [← hL]; exact hm
  ((repeat ((conv => whnf); first | refine brT ?_ | refine brF ?_)); conv => whnf)
  refine loop_ruleR (α := Nat) [.old 0, .old 1] (fun k => [(14, .int .i64 (k : Int)), (11, .undef), (8, .bool ((l.take k).any (elT ps p))), (7, .hs 1 ((outA ps p l k).map natLV).length)])
    (fun k => [.box (famLV ps us), .arr 3 1 ((outA ps p l k).map natLV)]) (fun k => l.length - k) (fun k => k ≤ l.length) 0 (Nat.zero_le _) ?_ ?_
  · refine ⟨?_, ⟨rfl, rfl, rfl, rfl, trivial⟩, rfl⟩
    ((repeat ((conv => whnf); refine ⟨rfl, rfl, ?_⟩)); trivial)
  intro k hk
  generalize hK : kk _ = KK
  ((repeat ((conv => whnf); first | refine brT ?_ | refine brF ?_)); conv => whnf)
  (refine ⟨fun g1 => ?_, fun g1 => ?_⟩ <;> rw [g1])
  · have hlt : k < l.length := by rw [ltI_t] at g1; omega
    have e := step_i hlt hm'
    have hq := hl l[k] (List.getElem_mem hlt)
    have htk : l.take (k + 1) = l.take k ++ [l[k]] := List.take_succ_eq_append_getElem hlt
    have hol := outA_len ps p l (k + 1)
    have hol0 := outA_len ps p l k
    have hel := l1Elder_spec ps us (p : Int) (l[k] : Int) (by omega) (by simpa using hp) (by omega) (by simpa using hq)
    rw [elder_T hp hq] at hel
    ((repeat ((conv => whnf); first | refine brT ?_ | refine brF ?_)); conv => whnf)
    refine ⟨k, natLV l[k], rfl, by simp [hlt], rfl, ?_⟩
    cases hd : (l.take k).any (elT ps p)
    · have ho : outA ps p l k = l.take k := by unfold outA; rw [hd]
      ((repeat ((conv => whnf); first | refine brT ?_ | refine brF ?_)); conv => whnf)
      rw [show notB false = true by simp [notB]]
      ((repeat ((conv => whnf); first | refine brT ?_ | refine brF ?_)); conv => whnf)
      refine ⟨_, hel, ?_⟩
      ((repeat ((conv => whnf); first | refine brT ?_ | refine brF ?_)); conv => whnf)
      (refine ⟨fun g2 => ?_, fun g2 => ?_⟩ <;> rw [g2])
      · have hd' : (l.take (k + 1)).any (elT ps p) = true := by rw [htk, List.any_append, hd]; simp [g2]
        have ho' : outA ps p l (k + 1) = l.take k ++ [p, l[k]] := by
          unfold outA; rw [hd', htk]; simp only
          rw [insA_no _ _ hd]; simp [insA, g2]
        have e1 : (l.take k).map natLV ++ [LV.int .i64 (p : Int)] = (l.take k ++ [p]).map natLV := by simp [natLV]
        have e2 : (l.take k ++ [p]).map natLV ++ [LV.int .i64 (l[k] : Int)] = (outA ps p l (k + 1)).map natLV := by rw [ho']; simp [natLV]
        rw [ho]
        ((repeat ((conv => whnf); first | refine brT ?_ | refine brF ?_)); conv => whnf)
        refine ⟨rfl, rfl, ?_, ?_, ?_⟩
        · rw [e1]; simp; unfold Go.maxLen; omega
        · rw [e1]; show ((l.take k ++ [p]).map natLV).length * 8 ≤ _; simp; omega
        rw [e1]
        ((repeat ((conv => whnf); first | refine brT ?_ | refine brF ?_)); conv => whnf)
        refine ⟨rfl, rfl, ?_, ?_, ?_⟩
        · rw [e2, nats_len]; unfold Go.maxLen; omega
        · rw [e2]; show ((outA ps p l (k + 1)).map natLV).length * 8 ≤ _; rw [nats_len]; omega
        rw [e2]
        ((repeat ((conv => whnf); first | refine brT ?_ | refine brF ?_)); conv => whnf)
        subst hK
        have e8 : LV.bool true = LV.bool ((l.take (k + 1)).any (elT ps p)) := by rw [hd']
        refine round_endR [.old 0, .old 5] (k + 1) hlt (by omega) ⟨?_, ⟨rfl, rfl, rfl, rfl, trivial⟩, rfl⟩
        repeat ((conv => whnf); first | refine ⟨rfl, e, ?_⟩ | refine ⟨rfl, e8, ?_⟩ | refine ⟨rfl, rfl, ?_⟩)
        trivial
      · have hd' : (l.take (k + 1)).any (elT ps p) = false := by rw [htk, List.any_append, hd]; simp [g2]
        have ho' : outA ps p l (k + 1) = l.take k ++ [l[k]] := by unfold outA; rw [hd']; simp only; exact htk
        have e2 : (l.take k).map natLV ++ [LV.int .i64 (l[k] : Int)] = (outA ps p l (k + 1)).map natLV := by rw [ho', List.map_append]; rfl
        rw [ho]
        ((repeat ((conv => whnf); first | refine brT ?_ | refine brF ?_)); conv => whnf)
        refine ⟨rfl, rfl, ?_, ?_, ?_⟩
        · rw [e2, nats_len]; unfold Go.maxLen; omega
        · rw [e2]; show ((outA ps p l (k + 1)).map natLV).length * 8 ≤ _; rw [nats_len]; omega
        rw [e2]
        ((repeat ((conv => whnf); first | refine brT ?_ | refine brF ?_)); conv => whnf)
        subst hK
        have e8 : LV.bool false = LV.bool ((l.take (k + 1)).any (elT ps p)) := by rw [hd']
        refine round_endR [.old 0, .old 3] (k + 1) hlt (by omega) ⟨?_, ⟨rfl, rfl, rfl, rfl, trivial⟩, rfl⟩
        repeat ((conv => whnf); first | refine ⟨rfl, e, ?_⟩ | refine ⟨rfl, e8, ?_⟩ | refine ⟨rfl, rfl, ?_⟩)
        trivial
    · have hd' : (l.take (k + 1)).any (elT ps p) = true := by rw [htk, List.any_append, hd]; simp
      have ho : outA ps p l k = insA ps p (l.take k) := by unfold outA; rw [hd]
      have ho' : outA ps p l (k + 1) = insA ps p (l.take k) ++ [l[k]] := by
        unfold outA; rw [hd', htk]; simp only
        rw [insA_yes _ _ hd]
      have e2 : (insA ps p (l.take k)).map natLV ++ [LV.int .i64 (l[k] : Int)] = (outA ps p l (k + 1)).map natLV := by rw [ho']; simp [natLV]
      ((repeat ((conv => whnf); first | refine brT ?_ | refine brF ?_)); conv => whnf)
      rw [show notB true = false by simp [notB]]
      rw [ho]
      ((repeat ((conv => whnf); first | refine brT ?_ | refine brF ?_)); conv => whnf)
      refine ⟨rfl, rfl, ?_, ?_, ?_⟩
      · rw [e2, nats_len]; unfold Go.maxLen; omega
      · rw [e2]; show ((outA ps p l (k + 1)).map natLV).length * 8 ≤ _; rw [nats_len]; omega
      rw [e2]
      ((repeat ((conv => whnf); first | refine brT ?_ | refine brF ?_)); conv => whnf)
      subst hK
      have e8 : LV.bool true = LV.bool ((l.take (k + 1)).any (elT ps p)) := by rw [hd']
      refine round_endR [.old 0, .old 3] (k + 1) hlt (by omega) ⟨?_, ⟨rfl, rfl, rfl, rfl, trivial⟩, rfl⟩
      repeat ((conv => whnf); first | refine ⟨rfl, e, ?_⟩ | refine ⟨rfl, e8, ?_⟩ | refine ⟨rfl, rfl, ?_⟩)
      trivial
  have h4 : k = l.length := by rw [ltI_f] at g1; omega
  subst h4
  subst hK
  ((repeat ((conv => whnf); first | refine brT ?_ | refine brF ?_)); conv => whnf)
  cases hd : (l.take l.length).any (elT ps p)
  · have ho : outA ps p l l.length = l := by unfold outA; rw [hd]; simp
    have hi : insA ps p l = l ++ [p] := by
      rw [List.take_length] at hd
      have := insA_no l [] hd
      rw [List.append_nil] at this
      rw [this]; rfl
    have e1 : l.map natLV ++ [LV.int .i64 (p : Int)] = (insA ps p l).map natLV := by rw [hi]; simp [natLV]
    rw [show notB false = true by simp [notB], ho]
    ((repeat ((conv => whnf); first | refine brT ?_ | refine brF ?_)); conv => whnf)
    refine ⟨rfl, rfl, ?_, ?_, ?_⟩
    · rw [e1, nats_len, insA_len]; unfold Go.maxLen; omega
    · rw [e1]; show ((insA ps p l).map natLV).length * 8 ≤ _; rw [nats_len, insA_len]; omega
    rw [e1]
    ((repeat ((conv => whnf); first | refine brT ?_ | refine brF ?_)); conv => whnf)
    exact ⟨[.hs 0 ((insA ps p l).map natLV).length], rfl, rfl, .inr ⟨[.old 3], ⟨rfl, rfl, trivial⟩, ⟨rfl, rfl, trivial⟩, rfl⟩⟩
  · have ho : outA ps p l l.length = insA ps p l := by unfold outA; rw [hd, List.take_length]
    rw [show notB true = false by simp [notB], ho]
    ((repeat ((conv => whnf); first | refine brT ?_ | refine brF ?_)); conv => whnf)
    exact ⟨[.hs 0 ((insA ps p l).map natLV).length], rfl, rfl, .inr ⟨[.old 1], ⟨rfl, rfl, trivial⟩, ⟨rfl, rfl, trivial⟩, rfl⟩⟩
end Go.Proofs.YtbiagkccgijdlaaGreat


namespace Go.Proofs.YtbiagkccgijdlaaGreat
open Go.Shelf
set_option maxRecDepth 10000
set_option linter.unusedVariables false

/-- The library's sort by a comparing function, as this program holds it: which of its functions and types stand where. -/
def sortL_ren : Go.Shelf.Ren := ⟨fun | 6 => 142 | 15 => 165 | 14 => 164 | 28 => 181 | 29 => 182 | 20 => 173 | 21 => 174 | 22 => 175 | 23 => 176 | 24 => 177 | 25 => 178 | 26 => 179 | 27 => 180 | 46 => 184 | 47 => 185 | 48 => 186 | 49 => 187 | 50 => 188 | 57 => 189 | n => n, fun | 22 => 64 | 24 => 3 | 25 => 178 | 3 => 3 | 39 => 167 | 0 => 0 | 53 => 182 | 55 => 95 | 4 => 4 | 46 => 207 | 45 => 206 | 50 => 60 | 5 => 5 | 9 => 9 | 66 => 214 | 70 => 144 | 76 => 219 | 77 => 220 | n => n, fun | n => n⟩
theorem sortL : Go.Proofs.SlLaysF.n6 Tryz.prog sortL_ren := {
  mixed := by kernel_rfl
  f6 := ⟨Tryz.f142.name, by decide, Tryz.func142.trans (congrArg some (by kernel_rfl))⟩
  f14 := ⟨Tryz.f164.name, by decide, Tryz.func164.trans (congrArg some (by kernel_rfl))⟩
  f15 := Tryz.func165.trans (congrArg some (by kernel_rfl))
  f20 := ⟨Tryz.f173.name, by decide, Tryz.func173.trans (congrArg some (by kernel_rfl))⟩
  f21 := ⟨Tryz.f174.name, by decide, Tryz.func174.trans (congrArg some (by kernel_rfl))⟩
  f22 := ⟨Tryz.f175.name, by decide, Tryz.func175.trans (congrArg some (by kernel_rfl))⟩
  f23 := ⟨Tryz.f176.name, by decide, Tryz.func176.trans (congrArg some (by kernel_rfl))⟩
  f24 := ⟨Tryz.f177.name, by decide, Tryz.func177.trans (congrArg some (by kernel_rfl))⟩
  f25 := ⟨Tryz.f178.name, by decide, Tryz.func178.trans (congrArg some (by kernel_rfl))⟩
  f26 := ⟨Tryz.f179.name, by decide, Tryz.func179.trans (congrArg some (by kernel_rfl))⟩
  f27 := ⟨Tryz.f180.name, by decide, Tryz.func180.trans (congrArg some (by kernel_rfl))⟩
  f28 := Tryz.func181.trans (congrArg some (by kernel_rfl))
  f29 := Tryz.func182.trans (congrArg some (by kernel_rfl))
  f46 := ⟨Tryz.f184.name, by decide, Tryz.func184.trans (congrArg some (by kernel_rfl))⟩
  f47 := Tryz.func185.trans (congrArg some (by kernel_rfl))
  f48 := Tryz.func186.trans (congrArg some (by kernel_rfl))
  f49 := ⟨Tryz.f187.name, by decide, Tryz.func187.trans (congrArg some (by kernel_rfl))⟩
  f50 := ⟨Tryz.f188.name, by decide, Tryz.func188.trans (congrArg some (by kernel_rfl))⟩
  f57 := ⟨Tryz.f189.name, by decide, Tryz.func189.trans (congrArg some (by kernel_rfl))⟩
  t0 := Tryz.underlying0
  a0 := Tryz.isAgg0
  z0 := Tryz.sizeOf0
  v0 := Tryz.zeroValue0
  t3 := Tryz.underlying3
  a3 := Tryz.isAgg3
  z3 := Tryz.sizeOf3
  v3 := Tryz.zeroValue3
  t4 := Tryz.underlying4
  a4 := Tryz.isAgg4
  z4 := Tryz.sizeOf4
  v4 := Tryz.zeroValue4
  t5 := Tryz.underlying5
  a5 := Tryz.isAgg5
  z5 := Tryz.sizeOf5
  v5 := Tryz.zeroValue5
  t9 := Tryz.underlying9
  a9 := Tryz.isAgg9
  z9 := Tryz.sizeOf9
  v9 := Tryz.zeroValue9
  t22 := Tryz.underlying64
  a22 := Tryz.isAgg64
  z22 := Tryz.sizeOf64
  v22 := Tryz.zeroValue64
  a24 := Tryz.isAgg3
  z24 := Tryz.sizeOf3
  t25 := Tryz.underlying178
  a25 := Tryz.isAgg178
  z25 := Tryz.sizeOf178
  v25 := Tryz.zeroValue178
  t39 := Tryz.underlying167
  a39 := Tryz.isAgg167
  z39 := Tryz.sizeOf167
  v39 := Tryz.zeroValue167
  t45 := Tryz.underlying206
  a45 := Tryz.isAgg206
  z45 := Tryz.sizeOf206
  v45 := Tryz.zeroValue206
  t46 := Tryz.underlying207
  a46 := Tryz.isAgg207
  z46 := Tryz.sizeOf207
  v46 := Tryz.zeroValue207
  t50 := Tryz.underlying60
  a50 := Tryz.isAgg60
  z50 := Tryz.sizeOf60
  v50 := Tryz.zeroValue60
  t53 := Tryz.underlying182
  a53 := Tryz.isAgg182
  z53 := Tryz.sizeOf182
  v53 := Tryz.zeroValue182
  t55 := Tryz.underlying95
  a55 := Tryz.isAgg95
  z55 := Tryz.sizeOf95
  v55 := Tryz.zeroValue95
  t66 := Tryz.underlying214
  a66 := Tryz.isAgg214
  z66 := Tryz.sizeOf214
  v66 := Tryz.zeroValue214
  t70 := Tryz.underlying144
  a70 := Tryz.isAgg144
  z70 := Tryz.sizeOf144
  v70 := Tryz.zeroValue144
  t76 := Tryz.underlying219
  a76 := Tryz.isAgg219
  z76 := Tryz.sizeOf219
  v76 := Tryz.zeroValue219
  t77 := Tryz.underlying220
  a77 := Tryz.isAgg220
  z77 := Tryz.sizeOf220
  v77 := Tryz.zeroValue220 }

end Go.Proofs.YtbiagkccgijdlaaGreat


namespace Go.Proofs.YtbiagkccgijdlaaGreat
open Go.Lg
set_option maxHeartbeats 1600000
set_option maxRecDepth 10000
set_option linter.unusedVariables false
set_option linter.unusedSimpArgs false

end Go.Proofs.YtbiagkccgijdlaaGreat

namespace Go.Proofs.YtbiagkccgijdlaaGreat
open Go.Lg
set_option maxHeartbeats 1600000
set_option maxRecDepth 10000
set_option linter.unusedVariables false
set_option linter.unusedSimpArgs false

theorem toPersonS_h (ps : List Per) (hb : 56 * ps.length ≤ 281474976710656) : HSpec env.P 26 [.sl (ps.map Per.lv)] [] (.hs 0 ps.length) [.arr 57 6 (ps.map Per.lv)] := by
  refine HSpec_of_code (E := env.x [] 0) env_ok.x (fn := Tryz.f26) Tryz.func26 rfl Tryz.call26 _ _ _ _ ?_
  ((repeat ((conv => whnf); first | refine brT ?_ | refine brF ?_)); conv => whnf)
  intro hp
  have hp' : ps.length ≤ Go.maxLen := by simpa using hp
  ((repeat ((conv => whnf); first | refine brT ?_ | refine brF ?_)); conv => whnf)
  refine ⟨ps.length, by simp, by simp, hb, hp', rfl, by decide, ?_⟩
  ((repeat ((conv => whnf); first | refine brT ?_ | refine brF ?_)); conv => whnf)
  refine loop_rule (α := Nat) (fun k => [(4, .int .i64 (k : Int))]) (fun k => [.arr 57 6 (fillLV Per.lv zPer ps k)]) (fun k => ps.length - k) (fun k => k ≤ ps.length) 0 (Nat.zero_le _) ?_ ?_
  · refine ⟨?_, ⟨by simp [zPer, fillLV], trivial⟩, rfl, rfl⟩
    repeat ((conv => whnf); refine ⟨rfl, ?_⟩)
    trivial
  rintro k hk
  ((repeat ((conv => whnf); first | refine brT ?_ | refine brF ?_)); conv => whnf)
  intro _
  ((repeat ((conv => whnf); first | refine brT ?_ | refine brF ?_)); conv => whnf)
  refine ⟨fun h1 => ?_, fun h1 => ?_⟩ <;> rw [h1]
  · have hlt : k < ps.length := by rw [ltI_t] at h1; simp at h1; omega
    ((repeat ((conv => whnf); first | refine brT ?_ | refine brF ?_)); conv => whnf)
    refine ⟨k, ps[k].lv, rfl, by simp [hlt], rfl, ?_⟩
    ((repeat ((conv => whnf); first | refine brT ?_ | refine brF ?_)); conv => whnf)
    refine ⟨_, toPerson_spec ps[k], ?_⟩
    ((repeat ((conv => whnf); first | refine brT ?_ | refine brF ?_)); conv => whnf)
    refine ⟨(fill_len hk).symm, rfl, k, rfl, by rw [fill_len hk]; exact hlt, ?_⟩
    ((repeat ((conv => whnf); first | refine brT ?_ | refine brF ?_)); conv => whnf)
    refine ⟨(fill_len hk).symm, k, [], zPer, rfl, by simp [getP, fill_get hlt], rfl, rfl, rfl, _, rfl, ?_⟩
    ((repeat ((conv => whnf); first | refine brT ?_ | refine brF ?_)); conv => whnf)
    refine round_end (k + 1) hlt (by omega) ⟨?_, ⟨?_, trivial⟩, rfl, rfl⟩
    · have e := step_i hlt hp'
      repeat ((conv => whnf); first | refine ⟨e, ?_⟩ | refine ⟨rfl, ?_⟩)
      trivial
    · have e3 : (match (fillLV Per.lv zPer ps k)[k]? with | some z => (fillLV Per.lv zPer ps k).set k (setP z [] ps[k].lv) | none => fillLV Per.lv zPer ps k) = fillLV Per.lv zPer ps (k + 1) := by
        rw [fill_get hlt]
        simp only [zPer, setP]
        exact fill_set hlt
      exact congrArg (Blk.arr 57 6) e3
  · have h3 : ps.length ≤ k := by rw [ltI_f] at h1; simp at h1; omega
    have h4 : k = ps.length := by omega
    subst h4
    ((repeat ((conv => whnf); first | refine brT ?_ | refine brF ?_)); conv => whnf)
    exact ⟨[.hs 0 ps.length], rfl, rfl, .inl ⟨⟨rfl, trivial⟩, ⟨congrArg (Blk.arr 57 6) fill_all, trivial⟩, rfl, rfl⟩⟩
theorem toUnionS_h (ps : List Uni) (hb : 32 * ps.length ≤ 281474976710656) : HSpec env.P 27 [.sl (ps.map Uni.lv)] [] (.hs 0 ps.length) [.arr 74 4 (ps.map Uni.lv)] := by
  refine HSpec_of_code (E := env.x [] 0) env_ok.x (fn := Tryz.f27) Tryz.func27 rfl Tryz.call27 _ _ _ _ ?_
  ((repeat ((conv => whnf); first | refine brT ?_ | refine brF ?_)); conv => whnf)
  intro hp
  have hp' : ps.length ≤ Go.maxLen := by simpa using hp
  ((repeat ((conv => whnf); first | refine brT ?_ | refine brF ?_)); conv => whnf)
  refine ⟨ps.length, by simp, by simp, hb, hp', rfl, by decide, ?_⟩
  ((repeat ((conv => whnf); first | refine brT ?_ | refine brF ?_)); conv => whnf)
  refine loop_rule (α := Nat) (fun k => [(4, .int .i64 (k : Int))]) (fun k => [.arr 74 4 (fillLV Uni.lv zUni ps k)]) (fun k => ps.length - k) (fun k => k ≤ ps.length) 0 (Nat.zero_le _) ?_ ?_
  · refine ⟨?_, ⟨by simp [zUni, fillLV], trivial⟩, rfl, rfl⟩
    repeat ((conv => whnf); refine ⟨rfl, ?_⟩)
    trivial
  rintro k hk
  ((repeat ((conv => whnf); first | refine brT ?_ | refine brF ?_)); conv => whnf)
  intro _
  ((repeat ((conv => whnf); first | refine brT ?_ | refine brF ?_)); conv => whnf)
  refine ⟨fun h1 => ?_, fun h1 => ?_⟩ <;> rw [h1]
  · have hlt : k < ps.length := by rw [ltI_t] at h1; simp at h1; omega
    ((repeat ((conv => whnf); first | refine brT ?_ | refine brF ?_)); conv => whnf)
    refine ⟨k, ps[k].lv, rfl, by simp [hlt], rfl, ?_⟩
    ((repeat ((conv => whnf); first | refine brT ?_ | refine brF ?_)); conv => whnf)
    refine ⟨_, toUnion_spec ps[k], ?_⟩
    ((repeat ((conv => whnf); first | refine brT ?_ | refine brF ?_)); conv => whnf)
    refine ⟨(fill_len hk).symm, rfl, k, rfl, by rw [fill_len hk]; exact hlt, ?_⟩
    ((repeat ((conv => whnf); first | refine brT ?_ | refine brF ?_)); conv => whnf)
    refine ⟨(fill_len hk).symm, k, [], zUni, rfl, by simp [getP, fill_get hlt], rfl, rfl, rfl, _, rfl, ?_⟩
    ((repeat ((conv => whnf); first | refine brT ?_ | refine brF ?_)); conv => whnf)
    refine round_end (k + 1) hlt (by omega) ⟨?_, ⟨?_, trivial⟩, rfl, rfl⟩
    · have e := step_i hlt hp'
      repeat ((conv => whnf); first | refine ⟨e, ?_⟩ | refine ⟨rfl, ?_⟩)
      trivial
    · have e3 : (match (fillLV Uni.lv zUni ps k)[k]? with | some z => (fillLV Uni.lv zUni ps k).set k (setP z [] ps[k].lv) | none => fillLV Uni.lv zUni ps k) = fillLV Uni.lv zUni ps (k + 1) := by
        rw [fill_get hlt]
        simp only [zUni, setP]
        exact fill_set hlt
      exact congrArg (Blk.arr 74 4) e3
  · have h3 : ps.length ≤ k := by rw [ltI_f] at h1; simp at h1; omega
    have h4 : k = ps.length := by omega
    subst h4
    ((repeat ((conv => whnf); first | refine brT ?_ | refine brF ?_)); conv => whnf)
    exact ⟨[.hs 0 ps.length], rfl, rfl, .inl ⟨⟨rfl, trivial⟩, ⟨congrArg (Blk.arr 74 4) fill_all, trivial⟩, rfl, rfl⟩⟩

def famHS (a b : Nat) : LV := .st [.hs 0 a, .hs 1 b]
theorem toFamily_h (ps : List Per) (us : List Uni) (hp : 56 * ps.length ≤ 281474976710656) (hu : 32 * us.length ≤ 281474976710656) :
    HSpec env.P 7 [famLV ps us] [] (famHS ps.length us.length) [.arr 57 6 (ps.map Per.lv), .arr 74 4 (us.map Uni.lv)] := by
  refine HSpec_of_code (E := env.x [26, 27] 0) env_ok.x (fn := Tryz.f7) Tryz.func7 rfl Tryz.call7 _ _ _ _ ?_
  ((repeat ((conv => whnf); first | refine brT ?_ | refine brF ?_)); conv => whnf)
  refine ⟨[], _, _, _, _, toPersonS_h ps hp, rfl, rfl, rfl, trivial, ?_⟩
  ((repeat ((conv => whnf); first | refine brT ?_ | refine brF ?_)); conv => whnf)
  refine ⟨[], _, _, _, _, toUnionS_h us hu, rfl, rfl, rfl, trivial, ?_⟩
  ((repeat ((conv => whnf); first | refine brT ?_ | refine brF ?_)); conv => whnf)
  refine ⟨[famHS ps.length us.length], rfl, rfl, .inr ⟨[.old 3, .old 4], ?_, ?_, rfl⟩⟩
  · ((repeat ((conv => whnf); refine ⟨rfl, rfl, ?_⟩)); trivial)
  · exact ⟨rfl, rfl, rfl, rfl, trivial⟩
end Go.Proofs.YtbiagkccgijdlaaGreat


namespace Go.Proofs.YtbiagkccgijdlaaGreat
open Go.Lg
set_option maxHeartbeats 1600000
set_option maxRecDepth 10000
set_option linter.unusedVariables false
set_option linter.unusedSimpArgs false

def markUni (k : Nat) : Uni := ⟨(k : Int), (k : Int) + 1, (k : Int) + 2, (k : Int) + 3⟩
def markUnis (k : Nat) : Nat → List Uni
  | 0 => []
  | n + 1 => markUnis k n ++ [markUni (k + 4 * n)]
theorem markUnis_len (k : Nat) : ∀ n, (markUnis k n).length = n
  | 0 => rfl
  | n + 1 => by simp [markUnis, markUnis_len k n]
def rowUM (k : Nat) (ps : List Uni) (i : Nat) : List LV := (markUnis k i ++ ps.drop i).map Uni.lv
theorem rowUM_len {k : Nat} {ps : List Uni} {i : Nat} (h : i ≤ ps.length) : (rowUM k ps i).length = ps.length := by simp [rowUM, markUnis_len]; omega
theorem rowUM_get {k : Nat} {ps : List Uni} {i : Nat} (h : i < ps.length) : (rowUM k ps i)[i]? = some ps[i].lv := by
  unfold rowUM
  rw [List.getElem?_map, List.getElem?_append_right (by rw [markUnis_len]; exact Nat.le_refl _), markUnis_len, Nat.sub_self, List.getElem?_drop, Nat.add_zero, List.getElem?_eq_getElem h]
  rfl
theorem rowUM_set {k : Nat} {ps : List Uni} {i : Nat} (h : i < ps.length) : (rowUM k ps i).set i (markUni (k + 4 * i)).lv = rowUM k ps (i + 1) := by
  unfold rowUM
  rw [List.drop_eq_getElem_cons h, List.map_append, List.map_cons, List.set_append_right _ _ (by simp [markUnis_len])]
  simp [markUnis, markUnis_len]

theorem markUnionS_spec (ps : List Uni) (n : Nat) (hn : n = (ps.map Uni.lv).length) (k : Nat) (h1 : k + 4 * ps.length ≤ 2305843009213693952) :
    HSpec env.P 35 [.hs 0 n, .int .i64 (k : Int)] [.arr 74 4 (ps.map Uni.lv)] (.int .i64 ((k + 4 * ps.length : Nat) : Int)) [.arr 74 4 ((markUnis k ps.length).map Uni.lv)] := by
  subst hn
  refine HSpec_of_code (E := env.x [] 1) env_ok.x (fn := Tryz.f35) Tryz.func35 rfl Tryz.call35 _ _ _ _ ?_
  ((repeat ((conv => whnf); first | refine brT ?_ | refine brF ?_)); conv => whnf)
  refine loop_rule (α := Nat) (fun i => [(5, .int .i64 (i : Int)), (1, .int .i64 ((k + 4 * i : Nat) : Int)), (0, .hs 0 (rowUM k ps i).length)]) (fun i => [.arr 74 4 (rowUM k ps i)]) (fun i => ps.length - i) (fun i => i ≤ ps.length) 0 (Nat.zero_le _) ?_ ?_
  · have e0 : ps.map Uni.lv = rowUM k ps 0 := by simp [rowUM, markUnis]
    have e1 : LV.hs 0 (ps.map Uni.lv).length = LV.hs 0 (rowUM k ps 0).length := by rw [e0]
    refine ⟨?_, ⟨congrArg (Blk.arr 74 4) e0, trivial⟩, rfl, rfl⟩
    ((repeat ((conv => whnf); first | refine ⟨e1, ?_⟩ | refine ⟨rfl, ?_⟩)); trivial)
  intro i hi
  have hl := rowUM_len (k := k) hi
  ((repeat ((conv => whnf); first | refine brT ?_ | refine brF ?_)); conv => whnf)
  refine ⟨rfl, fun hm => ?_⟩
  have hm' : ps.length ≤ Go.maxLen := by rw [← hl]; exact hm
  ((repeat ((conv => whnf); first | refine brT ?_ | refine brF ?_)); conv => whnf)
  (refine ⟨fun g1 => ?_, fun g1 => ?_⟩ <;> rw [g1])
  · have hlt : i < ps.length := by rw [ltI_t] at g1; omega
    have e := step_i hlt hm'
    have hiL : i < (rowUM k ps i).length := by omega
    have hg := rowUM_get (k := k) hlt
    have hset := rowUM_set (k := k) hlt
    have w0 : IntKind.i64.wrap (((k + 4 * i : Nat) : Int) + 1) = ((k + 4 * i : Nat) : Int) + 1 := wrap64 (by omega) (by omega)
    have w1 : IntKind.i64.wrap (((k + 4 * i : Nat) : Int) + 1 + 1) = ((k + 4 * i : Nat) : Int) + 2 := by rw [wrap64 (by omega) (by omega)]; omega
    have w2 : IntKind.i64.wrap (((k + 4 * i : Nat) : Int) + 2 + 1) = ((k + 4 * i : Nat) : Int) + 3 := by rw [wrap64 (by omega) (by omega)]; omega
    have w3 : IntKind.i64.wrap (((k + 4 * i : Nat) : Int) + 3 + 1) = ((k + 4 * (i + 1) : Nat) : Int) := by rw [wrap64 (by omega) (by omega)]; omega
    have hlen : ∀ x : LV, (rowUM k ps i).length = ((rowUM k ps i).set i x).length := fun x => by simp
    generalize ps[i] = p at hg hset
    generalize hK : ((k + 4 * i : Nat) : Int) = kk at w0 w1 w2 w3 ⊢
    have hfin : (rowUM k ps i).set i (.st [.int .i64 kk, .int .i64 (kk + 1), .int .i64 (kk + 2), .int .i64 (kk + 3)]) = rowUM k ps (i + 1) := by
      rw [← hset]; unfold markUni Uni.lv; rw [hK]
    generalize rowUM k ps i = L at hl hm hiL hg hlen hfin g1 ⊢
    have hgp : getP (.st L) [i] = some (.st [LV.int .i64 p.husband, LV.int .i64 p.wife, LV.int .i64 p.since, LV.int .i64 p.till]) := by simp [getP, hg, Uni.lv]
    have hgp0 : getP (.st L) [i, 0] = some (.int .i64 p.husband) := by simp [getP, hg, Uni.lv]
    ((repeat ((conv => whnf); first | refine brT ?_ | refine brF ?_)); conv => whnf)
    refine ⟨rfl, rfl, i, rfl, hiL, ?_⟩
    ((repeat ((conv => whnf); first | refine brT ?_ | refine brF ?_)); conv => whnf)
    refine ⟨rfl, by simp, [LV.int .i64 p.husband, LV.int .i64 p.wife, LV.int .i64 p.since, LV.int .i64 p.till], hgp, rfl, by simp, ?_⟩
    ((repeat ((conv => whnf); first | refine brT ?_ | refine brF ?_)); conv => whnf)
    refine ⟨rfl, i, [0], .int .i64 p.husband, rfl, hgp0, rfl, rfl, rfl, L.set i (.st [.int .i64 kk, .int .i64 p.wife, .int .i64 p.since, .int .i64 p.till]), by rw [hg]; rfl, ?_⟩
    ((repeat ((conv => whnf); first | refine brT ?_ | refine brF ?_)); conv => whnf)
    rw [w0]
    refine ⟨hlen _, rfl, i, rfl, by simpa using hiL, ?_⟩
    ((repeat ((conv => whnf); first | refine brT ?_ | refine brF ?_)); conv => whnf)
    refine ⟨hlen _, by simp, _, fw_get hiL _, rfl, by simp, ?_⟩
    ((repeat ((conv => whnf); first | refine brT ?_ | refine brF ?_)); conv => whnf)
    refine ⟨hlen _, i, [1], _, rfl, fw_get2 hiL rfl, rfl, rfl, rfl, _, fw_set hiL rfl (.int .i64 (kk + 1)), ?_⟩
    ((repeat ((conv => whnf); first | refine brT ?_ | refine brF ?_)); conv => whnf)
    rw [w1]
    refine ⟨hlen _, rfl, i, rfl, by simpa using hiL, ?_⟩
    ((repeat ((conv => whnf); first | refine brT ?_ | refine brF ?_)); conv => whnf)
    refine ⟨hlen _, by simp, _, fw_get hiL _, rfl, by simp, ?_⟩
    ((repeat ((conv => whnf); first | refine brT ?_ | refine brF ?_)); conv => whnf)
    refine ⟨hlen _, i, [2], _, rfl, fw_get2 hiL rfl, rfl, rfl, rfl, _, fw_set hiL rfl (.int .i64 (kk + 2)), ?_⟩
    ((repeat ((conv => whnf); first | refine brT ?_ | refine brF ?_)); conv => whnf)
    rw [w2]
    refine ⟨hlen _, rfl, i, rfl, by simpa using hiL, ?_⟩
    ((repeat ((conv => whnf); first | refine brT ?_ | refine brF ?_)); conv => whnf)
    refine ⟨hlen _, by simp, _, fw_get hiL _, rfl, by simp, ?_⟩
    ((repeat ((conv => whnf); first | refine brT ?_ | refine brF ?_)); conv => whnf)
    refine ⟨hlen _, i, [3], _, rfl, fw_get2 hiL rfl, rfl, rfl, rfl, _, fw_set hiL rfl (.int .i64 (kk + 3)), ?_⟩
    ((repeat ((conv => whnf); first | refine brT ?_ | refine brF ?_)); conv => whnf)
    have e5 : LV.hs 0 L.length = LV.hs 0 (rowUM k ps (i + 1)).length := by rw [hl, rowUM_len (by omega)]
    have e6 : LV.int .i64 (IntKind.i64.wrap (kk + 3 + 1)) = LV.int .i64 ((k + 4 * (i + 1) : Nat) : Int) := by rw [w3]
    refine round_end (i + 1) hlt (by omega) ⟨?_, ⟨congrArg (Blk.arr 74 4) hfin, trivial⟩, rfl, rfl⟩
    repeat ((conv => whnf); first | refine ⟨e, ?_⟩ | refine ⟨e6, ?_⟩ | refine ⟨e5, ?_⟩ | refine ⟨rfl, ?_⟩)
    trivial
  · have h3 : i = ps.length := by rw [ltI_f] at g1; omega
    subst h3
    ((repeat ((conv => whnf); first | refine brT ?_ | refine brF ?_)); conv => whnf)
    exact ⟨[.int .i64 ((k + 4 * ps.length : Nat) : Int)], rfl, rfl, .inl ⟨⟨rfl, trivial⟩, ⟨by simp [rowUM], trivial⟩, rfl, rfl⟩⟩

theorem markFamily_spec (ps : List Per) (us : List Uni) (k : Nat) (h1 : k + 6 * ps.length + 4 * us.length ≤ 2305843009213693952) :
    HSpec env.P 12 [famHS ps.length us.length, .int .i64 (k : Int)] [.arr 57 6 (ps.map Per.lv), .arr 74 4 (us.map Uni.lv)] (.int .i64 ((k + 6 * ps.length + 4 * us.length : Nat) : Int))
      [.arr 57 6 ((markPers k ps.length).map Per.lv), .arr 74 4 ((markUnis (k + 6 * ps.length) us.length).map Uni.lv)] := by
  refine HSpec_of_code (E := env.x [34, 35] 2) env_ok.x (fn := Tryz.f12) Tryz.func12 rfl Tryz.call12 _ _ _ _ ?_
  ((repeat ((conv => whnf); first | refine brT ?_ | refine brF ?_)); conv => whnf)
  refine ⟨[0], _, _, _, _, markPersonS_spec ps ps.length (by simp) k (by omega), rfl, rfl, rfl, trivial, ?_⟩
  ((repeat ((conv => whnf); first | refine brT ?_ | refine brF ?_)); conv => whnf)
  refine ⟨[1], _, _, _, _, markUnionS_spec us us.length (by simp) (k + 6 * ps.length) (by omega), rfl, rfl, rfl, trivial, ?_⟩
  ((repeat ((conv => whnf); first | refine brT ?_ | refine brF ?_)); conv => whnf)
  exact ⟨[.int .i64 ((k + 6 * ps.length + 4 * us.length : Nat) : Int)], rfl, rfl, .inl ⟨⟨rfl, trivial⟩, ⟨rfl, rfl, trivial⟩, rfl, rfl⟩⟩

theorem toFamily_hm (ps : List Per) (us : List Uni) (hp : 56 * ps.length ≤ 281474976710656) (hu : 32 * us.length ≤ 281474976710656) :
    HSpec env.P 7 [famLV ps us] [] (famHS (ps.map Per.lv).length (us.map Uni.lv).length) [.arr 57 6 (ps.map Per.lv), .arr 74 4 (us.map Uni.lv)] := by
  rw [List.length_map, List.length_map]; exact toFamily_h ps us hp hu
theorem markFamily_hm (ps : List Per) (us : List Uni) (k : Nat) (h1 : k + 6 * ps.length + 4 * us.length ≤ 2305843009213693952) :
    HSpec env.P 12 [famHS (ps.map Per.lv).length (us.map Uni.lv).length, .int .i64 (k : Int)] [.arr 57 6 (ps.map Per.lv), .arr 74 4 (us.map Uni.lv)] (.int .i64 ((k + 6 * ps.length + 4 * us.length : Nat) : Int))
      [.arr 57 6 ((markPers k ps.length).map Per.lv), .arr 74 4 ((markUnis (k + 6 * ps.length) us.length).map Uni.lv)] := by
  rw [List.length_map, List.length_map]; exact markFamily_spec ps us k h1
end Go.Proofs.YtbiagkccgijdlaaGreat


namespace Go.Proofs.YtbiagkccgijdlaaGreat
open Go.Lg
set_option maxHeartbeats 1600000
set_option maxRecDepth 10000
set_option linter.unusedVariables false
set_option linter.unusedSimpArgs false

end Go.Proofs.YtbiagkccgijdlaaGreat

namespace Go.Proofs.YtbiagkccgijdlaaGreat
open Go.Lg
set_option maxHeartbeats 1600000
set_option maxRecDepth 10000
set_option linter.unusedVariables false
set_option linter.unusedSimpArgs false

/-! A table that is filled row by row. -/
/-! ### Steps in a family, as the model has them -/
end Go.Proofs.YtbiagkccgijdlaaGreat


namespace Go.Proofs.YtbiagkccgijdlaaGreat
open Go.Lg
set_option maxHeartbeats 6400000
set_option maxRecDepth 10000
set_option linter.unusedVariables false
set_option linter.unusedSimpArgs false

end Go.Proofs.YtbiagkccgijdlaaGreat

namespace Go.Proofs.YtbiagkccgijdlaaGreat
open Go.Lg
set_option maxHeartbeats 6400000
set_option maxRecDepth 10000
set_option linter.unusedVariables false
set_option linter.unusedSimpArgs false

end Go.Proofs.YtbiagkccgijdlaaGreat

namespace Go.Proofs.YtbiagkccgijdlaaGreat
open Go.Lg
set_option maxHeartbeats 6400000
set_option maxRecDepth 10000
set_option linter.unusedVariables false
set_option linter.unusedSimpArgs false

end Go.Proofs.YtbiagkccgijdlaaGreat

namespace Go.Proofs.YtbiagkccgijdlaaGreat
open Go.Lg
set_option maxHeartbeats 6400000
set_option maxRecDepth 10000
set_option linter.unusedVariables false
set_option linter.unusedSimpArgs false

end Go.Proofs.YtbiagkccgijdlaaGreat

namespace Go.Proofs.YtbiagkccgijdlaaGreat
open Go.Lg
set_option maxHeartbeats 6400000
set_option maxRecDepth 10000
set_option linter.unusedVariables false
set_option linter.unusedSimpArgs false

end Go.Proofs.YtbiagkccgijdlaaGreat

namespace Go.Proofs.YtbiagkccgijdlaaGreat
open Go.Lg
set_option maxHeartbeats 6400000
set_option maxRecDepth 10000
set_option linter.unusedVariables false
set_option linter.unusedSimpArgs false

end Go.Proofs.YtbiagkccgijdlaaGreat

namespace Go.Proofs.YtbiagkccgijdlaaGreat
open Go.Lg
set_option maxHeartbeats 3200000
set_option maxRecDepth 10000
set_option linter.unusedVariables false
set_option linter.unusedSimpArgs false

end Go.Proofs.YtbiagkccgijdlaaGreat

namespace Go.Proofs.YtbiagkccgijdlaaGreat
open Go.Lg
set_option maxHeartbeats 3200000
set_option maxRecDepth 10000
set_option linter.unusedVariables false
set_option linter.unusedSimpArgs false

/-! ### Steps in a family, as the program has them -/
def chB (x : Per) (b : Int) : Bool := eqI x.father b || eqI x.mother b
end Go.Proofs.YtbiagkccgijdlaaGreat

namespace Go.Proofs.YtbiagkccgijdlaaGreat
open Go.Lg
set_option maxHeartbeats 3200000
set_option maxRecDepth 10000
set_option linter.unusedVariables false
set_option linter.unusedSimpArgs false

end Go.Proofs.YtbiagkccgijdlaaGreat

namespace Go.Proofs.YtbiagkccgijdlaaGreat
open Go.Lg
set_option maxHeartbeats 6400000
set_option maxRecDepth 10000
set_option linter.unusedVariables false
set_option linter.unusedSimpArgs false

end Go.Proofs.YtbiagkccgijdlaaGreat

namespace Go.Proofs.YtbiagkccgijdlaaGreat
open Go.Lg
set_option maxHeartbeats 6400000
set_option maxRecDepth 10000
set_option linter.unusedVariables false
set_option linter.unusedSimpArgs false

end Go.Proofs.YtbiagkccgijdlaaGreat

namespace Go.Proofs.YtbiagkccgijdlaaGreat
open Go.Lg
set_option maxHeartbeats 6400000
set_option maxRecDepth 10000
set_option linter.unusedVariables false
set_option linter.unusedSimpArgs false

end Go.Proofs.YtbiagkccgijdlaaGreat

namespace Go.Proofs.YtbiagkccgijdlaaGreat
open Go.Lg
set_option maxHeartbeats 6400000
set_option maxRecDepth 10000
set_option linter.unusedVariables false
set_option linter.unusedSimpArgs false

end Go.Proofs.YtbiagkccgijdlaaGreat

namespace Go.Proofs.YtbiagkccgijdlaaGreat
open Go.Lg
set_option maxHeartbeats 6400000
set_option maxRecDepth 10000
set_option linter.unusedVariables false
set_option linter.unusedSimpArgs false

end Go.Proofs.YtbiagkccgijdlaaGreat

namespace Go.Proofs.YtbiagkccgijdlaaGreat
open Go.Lg
set_option maxHeartbeats 3200000
set_option maxRecDepth 10000
set_option linter.unusedVariables false
set_option linter.unusedSimpArgs false

/-! ### In a valid family both ways of following a step are one -/
theorem par_one {ps : List Per} {i : Nat} {x sx born : Int} (h : parentOk (ps.take i) x sx born = true) :
    (x = -1 ∨ (0 ≤ x ∧ x.toNat < ps.length)) ∧ ∀ (b : Nat) (hb : b < ps.length), x = (b : Int) → ps[b].sex = sx := by
  unfold parentOk at h
  simp only [Bool.or_eq_true, eqI_t, Bool.and_eq_true, leI_t] at h
  rcases h with h | ⟨h0, h1⟩
  · exact ⟨.inl h, fun b hb e => by omega⟩
  · split at h1
    · cases h1
    · rename_i q hq
      obtain ⟨hl, e⟩ := List.getElem?_eq_some_iff.1 hq
      simp only [Bool.and_eq_true, eqI_t] at h1
      rw [List.length_take] at hl
      rw [List.getElem_take] at e
      refine ⟨.inr ⟨h0, by omega⟩, fun b hb ex => ?_⟩
      have eb : x.toNat = b := by omega
      subst eb
      rw [e]
      exact h1.1
theorem par_sex {ps : List Per} {us : List Uni} (h : famOk ps us = true) {i : Nat} (hi : i < ps.length) :
    ((ps[i].father = -1 ∨ (0 ≤ ps[i].father ∧ ps[i].father.toNat < ps.length)) ∧ ∀ (b : Nat) (hb : b < ps.length), ps[i].father = (b : Int) → ps[b].sex = 1) ∧
    ((ps[i].mother = -1 ∨ (0 ≤ ps[i].mother ∧ ps[i].mother.toNat < ps.length)) ∧ ∀ (b : Nat) (hb : b < ps.length), ps[i].mother = (b : Int) → ps[b].sex = 2) := by
  obtain ⟨_, _, hp, _, _⟩ := famOk_parts h
  obtain ⟨_, _, _, _, _, _, p1, p2⟩ := personOk_spec (personsTo_get hp hi hi)
  exact ⟨par_one p1, par_one p2⟩
/-- A father is no one's mother. -/
theorem far {ps : List Per} {us : List Uni} (h : famOk ps us = true) {i j : Nat} (hi : i < ps.length) (hj : j < ps.length) (e : ps[i].father ≠ -1) : ps[i].father ≠ ps[j].mother := by
  obtain ⟨⟨f1, f2⟩, _⟩ := par_sex h hi
  obtain ⟨_, _, m2⟩ := par_sex h hj
  intro k
  rcases f1 with f1 | ⟨f0, fl⟩
  · exact e f1
  · have a1 := f2 _ fl (by omega)
    have a2 := m2 _ fl (by omega)
    omega

section
variable {ps : List Per} {us : List Uni} {s : Pr} (h : famOk ps us = true)
include h
end

end Go.Proofs.YtbiagkccgijdlaaGreat

namespace Go.Proofs.YtbiagkccgijdlaaGreat
open Go.Lg Go.Pm
set_option maxHeartbeats 3200000
set_option maxRecDepth 10000
set_option linter.unusedVariables false
set_option linter.unusedSimpArgs false

theorem cmpAge_spec (ps : List Per) (us : List Uni) (a b : Nat) (ha : a < ps.length) (hb : b < ps.length) : FSpec env.P 143 [natLV a, natLV b, .ref (famLV ps us)] (.int .i64 (ageI ps a b)) := by
  refine FSpec_of_code env_ok (fn := Tryz.f143) Tryz.func143 rfl Tryz.call143 _ _ ?_
  have h := compareAge_spec ps us (a : Int) (b : Int) (by omega) (by simpa using ha) (by omega) (by simpa using hb)
  ((repeat ((conv => whnf); first | refine brT ?_ | refine brF ?_)); conv => whnf)
  refine ⟨_, h, ?_⟩
  ((repeat ((conv => whnf); first | refine brT ?_ | refine brF ?_)); conv => whnf)
  exact ⟨rfl, rfl, List.nodup_nil⟩
theorem age_T {ps : List Per} (a b : Nat) (ha : a < ps.length) (hb : b < ps.length) : elT ps a b = decide (ageI ps (a : Int) (b : Int) < 0) := by
  rw [← elder_T ha hb, ← age_elder]; unfold ltI; rfl
theorem sortAge_h (ps : List Per) (us : List Uni) (xs : List Nat) (hx : ∀ x ∈ xs, x < ps.length) (hN : xs.length < 1073741824) :
    HSpec env.P 142 [.hs 1 xs.length, .clos 143 [.hp 0 0 []]] [.box (famLV ps us), .arr 3 1 (xs.map natLV)] (.tup []) [.box (famLV ps us), .arr 3 1 ((xs.mergeSort fun a b => !elT ps b a).map natLV)] :=
  sortFunc_h sortL rfl (by rfl) (fun a b ha hb => cmpAge_spec ps us a b ha hb) (fun a b ha hb => age_T a b ha hb) (elT_on ps ps.length) xs hx hN
def rowW (q : Nat → Bool) (k : Nat) : List LV := (wantL q k).map natLV
/-! ### Children and siblings -/
def chQ (ps : List Per) (p : Int) (i : Nat) : Bool := match ps[i]? with | some x => chB x p | none => false
theorem flats_nats : ∀ xs : List Nat, flatsB (xs.map natLV) = true
  | [] => rfl
  | x :: xs => by simp [flatsB, flatB, natLV]; exact flats_nats xs
end Go.Proofs.YtbiagkccgijdlaaGreat

namespace Go.Proofs.YtbiagkccgijdlaaGreat
open Go.Lg
set_option maxHeartbeats 6400000
set_option maxRecDepth 10000
set_option linter.unusedVariables false
set_option linter.unusedSimpArgs false

theorem WeakS.idn {n0 : Nat} {ts : List LV} {H : List Blk} (h1 : wk ts ts) (h2 : wkH n0 H H) (h3 : (scs (below H.length) ts && H.all (scB (below H.length))) = true) : Weak n0 ts H ts H := by
  simp only [Bool.and_eq_true] at h3
  exact .inl ⟨h1, h2, h3.1, h3.2⟩
end Go.Proofs.YtbiagkccgijdlaaGreat

namespace Go.Proofs.YtbiagkccgijdlaaGreat
open Go.Lg
set_option maxHeartbeats 1600000
set_option maxRecDepth 10000
set_option linter.unusedVariables false
set_option linter.unusedSimpArgs false

/-! ### Rows of texts -/
end Go.Proofs.YtbiagkccgijdlaaGreat

namespace Go.Proofs.YtbiagkccgijdlaaGreat
open Go.Lg
set_option maxHeartbeats 3200000
set_option maxRecDepth 10000
set_option linter.unusedVariables false
set_option linter.unusedSimpArgs false

end Go.Proofs.YtbiagkccgijdlaaGreat

namespace Go.Proofs.YtbiagkccgijdlaaGreat
open Go.Lg
set_option maxHeartbeats 3200000
set_option maxRecDepth 10000
set_option linter.unusedVariables false
set_option linter.unusedSimpArgs false

end Go.Proofs.YtbiagkccgijdlaaGreat

namespace Go.Proofs.YtbiagkccgijdlaaGreat
open Go.Lg
set_option maxHeartbeats 3200000
set_option maxRecDepth 10000
set_option linter.unusedVariables false
set_option linter.unusedSimpArgs false

end Go.Proofs.YtbiagkccgijdlaaGreat

namespace Go.Proofs.YtbiagkccgijdlaaGreat
open Go.Lg
set_option maxHeartbeats 3200000
set_option maxRecDepth 10000
set_option linter.unusedVariables false
set_option linter.unusedSimpArgs false

end Go.Proofs.YtbiagkccgijdlaaGreat

namespace Go.Proofs.YtbiagkccgijdlaaGreat
open Go.Lg
set_option maxHeartbeats 6400000
set_option maxRecDepth 10000
set_option linter.unusedVariables false
set_option linter.unusedSimpArgs false

end Go.Proofs.YtbiagkccgijdlaaGreat
