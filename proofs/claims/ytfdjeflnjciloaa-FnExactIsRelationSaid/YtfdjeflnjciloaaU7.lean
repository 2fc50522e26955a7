/- Contracts of functions of the program and of its model, told over readings. -/
import Derived.Test.YtfdjeflnjciloaaU6
import Derived.Test.YtfdjeflnjciloaaT11
namespace Go.Proofs.Ytfdjeflnjciloaa
open Go.Lg
set_option maxHeartbeats 800000
set_option maxRecDepth 10000
set_option linter.unusedVariables false
set_option linter.unusedSimpArgs false

def personsTo (ps : List Per) (k : Nat) : Bool := (List.range k).all fun i => match ps[i]? with | some p => personOk (ps.take i) p | none => true
def unionsTo (ps : List Per) (us : List Uni) (k : Nat) : Bool := (List.range k).all fun i => match us[i]? with | some u => unionOk ps (us.take i) u | none => true
def shallow (ds : List Int) : Bool := ds.all fun d => leI d 10
def famOk (ps : List Per) (us : List Uni) : Bool := decide (ps.length ≤ 40) && (decide (us.length ≤ 60) && (personsTo ps ps.length && (unionsTo ps us us.length && shallow (depths ps))))

theorem personsTo_succ {ps : List Per} {k : Nat} (h : k < ps.length) : personsTo ps (k + 1) = (personsTo ps k && personOk (ps.take k) ps[k]) := by
  unfold personsTo
  rw [List.range_succ, List.all_append]
  simp [h]
theorem personsTo_no {ps : List Per} {i k : Nat} (hi : i < k) (h : i < ps.length) (e : personOk (ps.take i) ps[i] = false) : personsTo ps k = false := by
  unfold personsTo
  rw [List.all_eq_false]
  exact ⟨i, List.mem_range.2 hi, by simp [h, e]⟩
theorem unionsTo_succ {ps : List Per} {us : List Uni} {k : Nat} (h : k < us.length) : unionsTo ps us (k + 1) = (unionsTo ps us k && unionOk ps (us.take k) us[k]) := by
  unfold unionsTo
  rw [List.range_succ, List.all_append]
  simp [h]
theorem unionsTo_no {ps : List Per} {us : List Uni} {i k : Nat} (hi : i < k) (h : i < us.length) (e : unionOk ps (us.take i) us[i] = false) : unionsTo ps us k = false := by
  unfold unionsTo
  rw [List.all_eq_false]
  exact ⟨i, List.mem_range.2 hi, by simp [h, e]⟩
theorem personsTo_get {ps : List Per} {k : Nat} (h : personsTo ps k = true) {i : Nat} (hi : i < k) (hl : i < ps.length) : personOk (ps.take i) ps[i] = true := by
  cases e : personOk (ps.take i) ps[i] with
  | true => rfl
  | false => rw [personsTo_no hi hl e] at h; cases h

theorem personOk_spec {ps : List Per} {p : Per} (h : personOk ps p = true) : findFrom p.name 0 ps = none ∧ isName p.name = true ∧ (p.sex = 1 ∨ p.sex = 2) ∧ 0 ≤ p.born ∧ p.born ≤ 9999 ∧ (p.died = -1 ∨ (p.born ≤ p.died ∧ p.died ≤ 9999)) ∧
    parentOk ps p.father 1 p.born = true ∧ parentOk ps p.mother 2 p.born = true := by
  unfold personOk at h
  split at h
  · cases h
  · rename_i hf
    simp only [endYear, Bool.and_eq_true, Bool.or_eq_true, leI_t, eqI_t] at h
    grind
theorem parentOk_in {ps : List Per} {x s b : Int} (h : parentOk ps x s b = true) : parIn x ps.length := by
  unfold parentOk at h
  simp only [Bool.or_eq_true, eqI_t, Bool.and_eq_true, leI_t] at h
  rcases h with h | ⟨h0, h1⟩
  · exact .inl h
  · split at h1
    · cases h1
    · rename_i q hq
      have := lt_of_get hq
      exact .inr ⟨h0, by omega⟩
theorem parsIn_of {ps : List Per} (h : personsTo ps ps.length = true) : parsIn ps := by
  intro i hi
  obtain ⟨_, _, _, _, _, _, h1, h2⟩ := personOk_spec (personsTo_get h hi hi)
  have e : (ps.take i).length = i := by simp; omega
  have a := parentOk_in h1
  have b := parentOk_in h2
  rw [e] at a b
  exact ⟨a, b⟩

theorem shallow_succ {ds : List Int} {k : Nat} (h : k < ds.length) : shallow (ds.take (k + 1)) = (shallow (ds.take k) && leI ds[k] 10) := by
  unfold shallow
  rw [List.take_succ_eq_append_getElem h, List.all_append]
  simp
theorem shallow_no {ds : List Int} {k : Nat} (h : k < ds.length) (e : ltI 10 ds[k] = true) : shallow ds = false := by
  unfold shallow
  rw [List.all_eq_false]
  refine ⟨ds[k], List.getElem_mem h, ?_⟩
  rw [ltI_t] at e
  rw [Bool.not_eq_true, leI_f]; omega
theorem shallow_le {a : Int} (h : ltI 10 a = false) : leI a 10 = true := by rw [leI_t]; rw [ltI_f] at h; omega

theorem isPersonAfter_take (ps : List Per) (k : Nat) (p : Per) : FSpec env.P 184 [.sl (((ps.map Per.lv).drop 0).take (k - 0)), p.lv] (.bool (personOk (ps.take k) p)) := by
  have := isPersonAfter_spec (ps.take k) p
  rw [List.map_take] at this
  simpa using this
theorem isUnionAfter_take (ps : List Per) (us : List Uni) (k : Nat) (u : Uni) : FSpec env.P 185 [.sl (((us.map Uni.lv).drop 0).take (k - 0)), u.lv, .sl (ps.map Per.lv)] (.bool (unionOk ps (us.take k) u)) := by
  have := isUnionAfter_spec ps (us.take k) u
  rw [List.map_take] at this
  simpa using this

/-- impl.IsFamily -/
theorem isFamily_impl (ps : List Per) (us : List Uni) : FSpec env.P 137 [famLV ps us] (.bool (famOk ps us)) := by
  refine FSpec_of_code env_ok (fn := Try.f137) Try.func137 rfl Try.call137 _ _ ?_
  ((repeat ((conv => whnf); first | refine brT ?_ | refine brF ?_)); conv => whnf)
  intro hpn
  ((repeat ((conv => whnf); first | refine brT ?_ | refine brF ?_)); conv => whnf)
  (refine ⟨fun h1 => ?_, fun h1 => ?_⟩ <;> rw [h1])
  · ((repeat ((conv => whnf); first | refine brT ?_ | refine brF ?_)); conv => whnf)
    refine fin ?_
    have : decide (ps.length ≤ 40) = false := by rw [ltI_t] at h1; simp at h1; simp; omega
    simp [famOk, this]
  have hl : ps.length ≤ 40 := by rw [ltI_f] at h1; simp at h1; omega
  ((repeat ((conv => whnf); first | refine brT ?_ | refine brF ?_)); conv => whnf)
  intro hun
  ((repeat ((conv => whnf); first | refine brT ?_ | refine brF ?_)); conv => whnf)
  (refine ⟨fun h2 => ?_, fun h2 => ?_⟩ <;> rw [h2])
  · ((repeat ((conv => whnf); first | refine brT ?_ | refine brF ?_)); conv => whnf)
    refine fin ?_
    have : decide (us.length ≤ 60) = false := by rw [ltI_t] at h2; simp at h2; simp; omega
    simp [famOk, this]
  have hul : us.length ≤ 60 := by rw [ltI_f] at h2; simp at h2; omega
  have hp' : ps.length ≤ Go.maxLen := by simpa using hpn
  have hu' : us.length ≤ Go.maxLen := by simpa using hun
  have hfam : famOk ps us = (personsTo ps ps.length && (unionsTo ps us us.length && shallow (depths ps))) := by simp [famOk, hl, hul]
  ((repeat ((conv => whnf); first | refine brT ?_ | refine brF ?_)); conv => whnf)
  intro _
  ((repeat ((conv => whnf); first | refine brT ?_ | refine brF ?_)); conv => whnf)
  refine loop_rule (α := Nat) (fun k => [(22, .int .i64 (k : Int))]) (fun k => [.box (famLV ps us)]) (fun k => ps.length - k) (fun k => k ≤ ps.length ∧ personsTo ps k = true) 0 ⟨Nat.zero_le _, rfl⟩ ?_ ?_
  · refine ⟨?_, ⟨rfl, trivial⟩, rfl, rfl⟩
    ((repeat ((conv => whnf); refine ⟨rfl, ?_⟩)); trivial)
  rintro k ⟨hk, hok⟩
  ((repeat ((conv => whnf); first | refine brT ?_ | refine brF ?_)); conv => whnf)
  (refine ⟨fun g1 => ?_, fun g1 => ?_⟩ <;> rw [g1])
  · have hlt : k < ps.length := by rw [ltI_t] at g1; simp at g1; omega
    have e := step_i hlt hp'
    ((repeat ((conv => whnf); first | refine brT ?_ | refine brF ?_)); conv => whnf)
    refine ⟨k, ps[k].lv, rfl, by simp [hlt], rfl, ?_⟩
    ((repeat ((conv => whnf); first | refine brT ?_ | refine brF ?_)); conv => whnf)
    refine ⟨by kernel_rfl, ?_⟩
    ((repeat ((conv => whnf); first | refine brT ?_ | refine brF ?_)); conv => whnf)
    refine ⟨0, k, rfl, rfl, by omega, by simp; omega, by simp [Per.lv, LV.size, LV.sizes], ?_⟩
    ((repeat ((conv => whnf); first | refine brT ?_ | refine brF ?_)); conv => whnf)
    refine ⟨_, isPersonAfter_take ps k ps[k], ?_⟩
    ((repeat ((conv => whnf); first | refine brT ?_ | refine brF ?_)); conv => whnf)
    (refine ⟨fun g2 => ?_, fun g2 => ?_⟩ <;> rw [g2])
    · rw [notB_t] at g2
      ((repeat ((conv => whnf); first | refine brT ?_ | refine brF ?_)); conv => whnf)
      refine fin ?_
      rw [hfam, personsTo_no hlt hlt g2]
      rfl
    · rw [notB_f] at g2
      ((repeat ((conv => whnf); first | refine brT ?_ | refine brF ?_)); conv => whnf)
      refine round_end (k + 1) ⟨hlt, by rw [personsTo_succ hlt, hok, g2]; rfl⟩ (by omega) ⟨?_, ⟨rfl, trivial⟩, rfl, rfl⟩
      ((repeat ((conv => whnf); first | refine ⟨e, ?_⟩ | refine ⟨rfl, ?_⟩)); trivial)
  have hkl : k = ps.length := by rw [ltI_f] at g1; simp at g1; omega
  subst hkl
  have hpars := parsIn_of hok
  ((repeat ((conv => whnf); first | refine brT ?_ | refine brF ?_)); conv => whnf)
  intro _
  ((repeat ((conv => whnf); first | refine brT ?_ | refine brF ?_)); conv => whnf)
  refine loop_rule (α := Nat) (fun k => [(38, .int .i64 (k : Int))]) (fun k => [.box (famLV ps us)]) (fun k => us.length - k) (fun k => k ≤ us.length ∧ unionsTo ps us k = true) 0 ⟨Nat.zero_le _, rfl⟩ ?_ ?_
  · refine ⟨?_, ⟨rfl, trivial⟩, rfl, rfl⟩
    ((repeat ((conv => whnf); refine ⟨rfl, ?_⟩)); trivial)
  rintro j ⟨hj, huok⟩
  ((repeat ((conv => whnf); first | refine brT ?_ | refine brF ?_)); conv => whnf)
  (refine ⟨fun j1 => ?_, fun j1 => ?_⟩ <;> rw [j1])
  · have hlt : j < us.length := by rw [ltI_t] at j1; simp at j1; omega
    have e := step_i hlt hu'
    ((repeat ((conv => whnf); first | refine brT ?_ | refine brF ?_)); conv => whnf)
    refine ⟨j, us[j].lv, rfl, by simp [hlt], rfl, ?_⟩
    ((repeat ((conv => whnf); first | refine brT ?_ | refine brF ?_)); conv => whnf)
    refine ⟨by kernel_rfl, ?_⟩
    ((repeat ((conv => whnf); first | refine brT ?_ | refine brF ?_)); conv => whnf)
    refine ⟨0, j, rfl, rfl, by omega, by simp; omega, by simp [Uni.lv, LV.size, LV.sizes], ?_⟩
    ((repeat ((conv => whnf); first | refine brT ?_ | refine brF ?_)); conv => whnf)
    refine ⟨_, isUnionAfter_take ps us j us[j], ?_⟩
    ((repeat ((conv => whnf); first | refine brT ?_ | refine brF ?_)); conv => whnf)
    (refine ⟨fun j2 => ?_, fun j2 => ?_⟩ <;> rw [j2])
    · rw [notB_t] at j2
      ((repeat ((conv => whnf); first | refine brT ?_ | refine brF ?_)); conv => whnf)
      refine fin ?_
      rw [hfam, unionsTo_no hlt hlt j2]
      simp
    · rw [notB_f] at j2
      ((repeat ((conv => whnf); first | refine brT ?_ | refine brF ?_)); conv => whnf)
      refine round_end (j + 1) ⟨hlt, by rw [unionsTo_succ hlt, huok, j2]; rfl⟩ (by omega) ⟨?_, ⟨rfl, trivial⟩, rfl, rfl⟩
      ((repeat ((conv => whnf); first | refine ⟨e, ?_⟩ | refine ⟨rfl, ?_⟩)); trivial)
  have hjl : j = us.length := by rw [ltI_f] at j1; simp at j1; omega
  subst hjl
  have hfam2 : famOk ps us = shallow (depths ps) := by rw [hfam, hok, huok]; rfl
  ((repeat ((conv => whnf); first | refine brT ?_ | refine brF ?_)); conv => whnf)
  refine ⟨_, depthsOf_spec ps hl hpars, ?_⟩
  ((repeat ((conv => whnf); first | refine brT ?_ | refine brF ?_)); conv => whnf)
  intro hdn
  have hd' : (depths ps).length ≤ Go.maxLen := by simpa using hdn
  ((repeat ((conv => whnf); first | refine brT ?_ | refine brF ?_)); conv => whnf)
  refine loop_rule (α := Nat) (fun k => [(57, .int .i64 (k : Int))]) (fun k => [.box (famLV ps us)]) (fun k => (depths ps).length - k) (fun k => k ≤ (depths ps).length ∧ shallow ((depths ps).take k) = true) 0 ⟨Nat.zero_le _, rfl⟩ ?_ ?_
  · refine ⟨?_, ⟨rfl, trivial⟩, rfl, rfl⟩
    ((repeat ((conv => whnf); refine ⟨rfl, ?_⟩)); trivial)
  rintro i ⟨hi, hsh⟩
  ((repeat ((conv => whnf); first | refine brT ?_ | refine brF ?_)); conv => whnf)
  (refine ⟨fun d1 => ?_, fun d1 => ?_⟩ <;> rw [d1])
  · have hlt : i < (depths ps).length := by rw [ltI_t] at d1; simp at d1; omega
    have e := step_i hlt hd'
    ((repeat ((conv => whnf); first | refine brT ?_ | refine brF ?_)); conv => whnf)
    refine ⟨i, .int .i64 (depths ps)[i], rfl, by simp [hlt, intLV], rfl, ?_⟩
    ((repeat ((conv => whnf); first | refine brT ?_ | refine brF ?_)); conv => whnf)
    (refine ⟨fun d2 => ?_, fun d2 => ?_⟩ <;> rw [d2])
    · ((repeat ((conv => whnf); first | refine brT ?_ | refine brF ?_)); conv => whnf)
      refine fin ?_
      rw [hfam2, shallow_no hlt d2]
    · ((repeat ((conv => whnf); first | refine brT ?_ | refine brF ?_)); conv => whnf)
      refine round_end (i + 1) ⟨hlt, by rw [shallow_succ hlt, hsh, shallow_le d2]; rfl⟩ (by omega) ⟨?_, ⟨rfl, trivial⟩, rfl, rfl⟩
      ((repeat ((conv => whnf); first | refine ⟨e, ?_⟩ | refine ⟨rfl, ?_⟩)); trivial)
  · have hil : i = (depths ps).length := by rw [ltI_f] at d1; simp at d1; omega
    subst hil
    rw [List.take_length] at hsh
    ((repeat ((conv => whnf); first | refine brT ?_ | refine brF ?_)); conv => whnf)
    refine fin ?_
    rw [hfam2, hsh]

/-- Asked of the person in the family, or of the person behind those before: the same, if those before are valid. -/
theorem parentAt_eq {ps : List Per} {i : Nat} {x sex born late : Int} (hl : i < ps.length) (hok : personsTo ps i = true) (h0 : 0 ≤ born) (h1 : born ≤ 9999) (hs : (sex = 1 ∧ late = 1) ∨ (sex = 2 ∧ late = 0)) :
    parentAt ps i x sex late born = parentOk (ps.take i) x sex born := by
  unfold parentAt parentOk
  congr 1
  cases e0 : leI 0 x with
  | false => rfl
  | true =>
    rw [leI_t] at e0
    simp only [Bool.true_and]
    by_cases hx : x < i
    · have hxl : x.toNat < ps.length := by omega
      have e1 : ltI x i = true := ltI_t.2 hx
      have e2 : (ps.take i)[x.toNat]? = some ps[x.toNat] := by rw [List.getElem?_take_of_lt (by omega)]; exact List.getElem?_eq_getElem hxl
      rw [e1, e2, List.getElem?_eq_getElem hxl]
      simp only [Bool.true_and]
      have hq := personOk_spec (personsTo_get hok (i := x.toNat) (by omega) hxl)
      generalize ps[x.toNat] = q at hq ⊢
      congr 1
      congr 1
      have hd := hq.2.2.2.2.2.1
      have hb := hq.2.2.2.1
      rcases hs with ⟨rfl, rfl⟩ | ⟨rfl, rfl⟩
      · have w1 : IntKind.i64.wrap (q.died + 1) = q.died + 1 := wrap64 (by omega) (by omega)
        have w2 : IntKind.i64.wrap (born - 1) = born - 1 := wrap64 (by omega) (by omega)
        rw [show eqI (1 : Int) 1 = true from eqI_t.2 rfl]
        simp only [livedTo, w1, w2]
        congr 1
        rw [Bool.eq_iff_iff, leI_t, leI_t]
        omega
      · have w1 : IntKind.i64.wrap (q.died + 0) = q.died + 0 := wrap64 (by omega) (by omega)
        rw [show eqI (2 : Int) 1 = false from eqI_f.2 (by decide)]
        simp only [livedTo, w1]
        congr 1
        rw [Bool.eq_iff_iff, leI_t, leI_t]
        omega
    · have e1 : ltI x i = false := ltI_f.2 (by omega)
      have e2 : (ps.take i)[x.toNat]? = none := by rw [List.getElem?_eq_none]; simp; omega
      rw [e1, e2]
      rfl

theorem findFrom_fresh {n : ByteArray} : ∀ (ps : List Per) (i : Nat), (findFrom n i ps = none) ↔ (ps.all fun q => notB (eqS q.name n)) = true
  | [], _ => by simp [findFrom]
  | p :: ps, i => by
    simp only [findFrom, List.all_cons, Bool.and_eq_true]
    cases e : eqS p.name n
    · rw [findFrom_fresh ps (i + 1)]; simp [notB]
    · simp [notB]

theorem personAt_eq {ps : List Per} {i : Nat} (hl : i < ps.length) (hok : personsTo ps i = true) : personAt ps i ps[i] = personOk (ps.take i) ps[i] := by
  generalize ps[i] = p
  unfold personAt personOk fresh
  have hf := findFrom_fresh (n := p.name) (ps.take i) 0
  cases e : findFrom p.name 0 (ps.take i) with
  | some j =>
    have : ((ps.take i).all fun q => notB (eqS q.name p.name)) = false := by
      cases h : ((ps.take i).all fun q => notB (eqS q.name p.name)) with
      | false => rfl
      | true => rw [hf.2 h] at e; cases e
    rw [this]
    simp
  | none =>
    rw [hf.1 e]
    by_cases hb : 0 ≤ p.born ∧ p.born ≤ 9999
    · rw [parentAt_eq hl hok hb.1 hb.2 (.inl ⟨rfl, rfl⟩), parentAt_eq hl hok hb.1 hb.2 (.inr ⟨rfl, rfl⟩)]
      simp only [Bool.true_and]
      generalize parentOk (ps.take i) p.father 1 p.born = A
      generalize parentOk (ps.take i) p.mother 2 p.born = B
      unfold shapeOk endYear
      have : (leI 1 p.sex && leI p.sex 2) = (eqI p.sex 1 || eqI p.sex 2) := by
        rw [Bool.eq_iff_iff]; simp only [Bool.and_eq_true, Bool.or_eq_true, leI_t, eqI_t]; omega
      rw [this]
      generalize leI 0 p.born = a
      generalize leI p.born 9999 = b
      generalize isName p.name = c
      generalize (eqI p.sex 1 || eqI p.sex 2) = d
      generalize (eqI p.died (-1) || leI p.born p.died && leI p.died 9999) = e
      cases a <;> cases b <;> cases c <;> cases d <;> cases e <;> cases A <;> cases B <;> rfl
    · have hn : (leI 0 p.born && leI p.born 9999) = false := by
        cases h : (leI 0 p.born && leI p.born 9999) with
        | false => rfl
        | true => simp only [Bool.and_eq_true, leI_t] at h; exact absurd h hb
      have e1 : shapeOk p = false := by unfold shapeOk; rw [hn]; simp
      rw [e1]
      have : (leI 0 p.born && (leI p.born 9999 && endYear p.died p.born)) = false := by
        rw [← Bool.and_assoc, hn]; rfl
      rw [this]
      simp

/-- spec.IsFamily -/
theorem isFamily_spec (ps : List Per) (us : List Uni) : FSpec env.P 135 [famLV ps us] (.bool (famOk ps us)) := by
  refine FSpec_of_code env_ok (fn := Try.f135) Try.func135 rfl Try.call135 _ _ ?_
  ((repeat ((conv => whnf); first | refine brT ?_ | refine brF ?_)); conv => whnf)
  intro hpn
  ((repeat ((conv => whnf); first | refine brT ?_ | refine brF ?_)); conv => whnf)
  (refine ⟨fun h1 => ?_, fun h1 => ?_⟩ <;> rw [h1])
  · ((repeat ((conv => whnf); first | refine brT ?_ | refine brF ?_)); conv => whnf)
    refine fin ?_
    have : decide (ps.length ≤ 40) = false := by rw [ltI_t] at h1; simp at h1; simp; omega
    simp [famOk, this]
  have hl : ps.length ≤ 40 := by rw [ltI_f] at h1; simp at h1; omega
  ((repeat ((conv => whnf); first | refine brT ?_ | refine brF ?_)); conv => whnf)
  intro hun
  ((repeat ((conv => whnf); first | refine brT ?_ | refine brF ?_)); conv => whnf)
  (refine ⟨fun h2 => ?_, fun h2 => ?_⟩ <;> rw [h2])
  · ((repeat ((conv => whnf); first | refine brT ?_ | refine brF ?_)); conv => whnf)
    refine fin ?_
    have : decide (us.length ≤ 60) = false := by rw [ltI_t] at h2; simp at h2; simp; omega
    simp [famOk, this]
  have hul : us.length ≤ 60 := by rw [ltI_f] at h2; simp at h2; omega
  have hp' : ps.length ≤ Go.maxLen := by simpa using hpn
  have hu' : us.length ≤ Go.maxLen := by simpa using hun
  have hfam : famOk ps us = (personsTo ps ps.length && (unionsTo ps us us.length && shallow (depths ps))) := by simp [famOk, hl, hul]
  ((repeat ((conv => whnf); first | refine brT ?_ | refine brF ?_)); conv => whnf)
  intro _
  ((repeat ((conv => whnf); first | refine brT ?_ | refine brF ?_)); conv => whnf)
  refine loop_rule (α := Nat) (fun k => [(20, .int .i64 (k : Int))]) (fun k => [.box (famLV ps us)]) (fun k => ps.length - k) (fun k => k ≤ ps.length ∧ personsTo ps k = true) 0 ⟨Nat.zero_le _, rfl⟩ ?_ ?_
  · refine ⟨?_, ⟨rfl, trivial⟩, rfl, rfl⟩
    ((repeat ((conv => whnf); refine ⟨rfl, ?_⟩)); trivial)
  rintro k ⟨hk, hok⟩
  ((repeat ((conv => whnf); first | refine brT ?_ | refine brF ?_)); conv => whnf)
  (refine ⟨fun g1 => ?_, fun g1 => ?_⟩ <;> rw [g1])
  · have hlt : k < ps.length := by rw [ltI_t] at g1; simp at g1; omega
    have e := step_i hlt hp'
    have hpe := personAt_eq hlt hok
    ((repeat ((conv => whnf); first | refine brT ?_ | refine brF ?_)); conv => whnf)
    refine ⟨_, l1Person_spec ps us k hlt hl, ?_⟩
    rw [hpe]
    ((repeat ((conv => whnf); first | refine brT ?_ | refine brF ?_)); conv => whnf)
    (refine ⟨fun g2 => ?_, fun g2 => ?_⟩ <;> rw [g2])
    · rw [notB_t] at g2
      ((repeat ((conv => whnf); first | refine brT ?_ | refine brF ?_)); conv => whnf)
      refine fin ?_
      rw [hfam, personsTo_no hlt hlt g2]
      rfl
    · rw [notB_f] at g2
      ((repeat ((conv => whnf); first | refine brT ?_ | refine brF ?_)); conv => whnf)
      refine round_end (k + 1) ⟨hlt, by rw [personsTo_succ hlt, hok, g2]; rfl⟩ (by omega) ⟨?_, ⟨rfl, trivial⟩, rfl, rfl⟩
      ((repeat ((conv => whnf); first | refine ⟨e, ?_⟩ | refine ⟨rfl, ?_⟩)); trivial)
  have hkl : k = ps.length := by rw [ltI_f] at g1; simp at g1; omega
  subst hkl
  have hpars := parsIn_of hok
  ((repeat ((conv => whnf); first | refine brT ?_ | refine brF ?_)); conv => whnf)
  refine ⟨_, l1Depths_spec ps us hl hpars, ?_⟩
  ((repeat ((conv => whnf); first | refine brT ?_ | refine brF ?_)); conv => whnf)
  intro hdn
  have hd' : (depths ps).length ≤ Go.maxLen := by simpa using hdn
  ((repeat ((conv => whnf); first | refine brT ?_ | refine brF ?_)); conv => whnf)
  refine loop_rule (α := Nat) (fun k => [(31, .int .i64 (k : Int))]) (fun k => [.box (famLV ps us)]) (fun k => (depths ps).length - k) (fun k => k ≤ (depths ps).length ∧ shallow ((depths ps).take k) = true) 0 ⟨Nat.zero_le _, rfl⟩ ?_ ?_
  · refine ⟨?_, ⟨rfl, trivial⟩, rfl, rfl⟩
    ((repeat ((conv => whnf); refine ⟨rfl, ?_⟩)); trivial)
  rintro i ⟨hi, hsh⟩
  ((repeat ((conv => whnf); first | refine brT ?_ | refine brF ?_)); conv => whnf)
  (refine ⟨fun d1 => ?_, fun d1 => ?_⟩ <;> rw [d1])
  · have hlt : i < (depths ps).length := by rw [ltI_t] at d1; simp at d1; omega
    have e := step_i hlt hd'
    ((repeat ((conv => whnf); first | refine brT ?_ | refine brF ?_)); conv => whnf)
    refine ⟨i, .int .i64 (depths ps)[i], rfl, by simp [hlt, intLV], rfl, ?_⟩
    ((repeat ((conv => whnf); first | refine brT ?_ | refine brF ?_)); conv => whnf)
    (refine ⟨fun d2 => ?_, fun d2 => ?_⟩ <;> rw [d2])
    · ((repeat ((conv => whnf); first | refine brT ?_ | refine brF ?_)); conv => whnf)
      refine fin ?_
      rw [hfam, shallow_no hlt d2]
      simp
    · ((repeat ((conv => whnf); first | refine brT ?_ | refine brF ?_)); conv => whnf)
      refine round_end (i + 1) ⟨hlt, by rw [shallow_succ hlt, hsh, shallow_le d2]; rfl⟩ (by omega) ⟨?_, ⟨rfl, trivial⟩, rfl, rfl⟩
      ((repeat ((conv => whnf); first | refine ⟨e, ?_⟩ | refine ⟨rfl, ?_⟩)); trivial)
  have hil : i = (depths ps).length := by rw [ltI_f] at d1; simp at d1; omega
  subst hil
  rw [List.take_length] at hsh
  ((repeat ((conv => whnf); first | refine brT ?_ | refine brF ?_)); conv => whnf)
  intro _
  ((repeat ((conv => whnf); first | refine brT ?_ | refine brF ?_)); conv => whnf)
  refine loop_rule (α := Nat) (fun k => [(41, .int .i64 (k : Int))]) (fun k => [.box (famLV ps us)]) (fun k => us.length - k) (fun k => k ≤ us.length ∧ unionsTo ps us k = true) 0 ⟨Nat.zero_le _, rfl⟩ ?_ ?_
  · refine ⟨?_, ⟨rfl, trivial⟩, rfl, rfl⟩
    ((repeat ((conv => whnf); refine ⟨rfl, ?_⟩)); trivial)
  rintro j ⟨hj, huok⟩
  ((repeat ((conv => whnf); first | refine brT ?_ | refine brF ?_)); conv => whnf)
  (refine ⟨fun j1 => ?_, fun j1 => ?_⟩ <;> rw [j1])
  · have hlt : j < us.length := by rw [ltI_t] at j1; simp at j1; omega
    have e := step_i hlt hu'
    ((repeat ((conv => whnf); first | refine brT ?_ | refine brF ?_)); conv => whnf)
    refine ⟨_, l1Union_spec ps us j hlt hl hul, ?_⟩
    ((repeat ((conv => whnf); first | refine brT ?_ | refine brF ?_)); conv => whnf)
    (refine ⟨fun j2 => ?_, fun j2 => ?_⟩ <;> rw [j2])
    · rw [notB_t] at j2
      ((repeat ((conv => whnf); first | refine brT ?_ | refine brF ?_)); conv => whnf)
      refine fin ?_
      rw [hfam, unionsTo_no hlt hlt j2]
      simp
    · rw [notB_f] at j2
      ((repeat ((conv => whnf); first | refine brT ?_ | refine brF ?_)); conv => whnf)
      refine round_end (j + 1) ⟨hlt, by rw [unionsTo_succ hlt, huok, j2]; rfl⟩ (by omega) ⟨?_, ⟨rfl, trivial⟩, rfl, rfl⟩
      ((repeat ((conv => whnf); first | refine ⟨e, ?_⟩ | refine ⟨rfl, ?_⟩)); trivial)
  have hjl : j = us.length := by rw [ltI_f] at j1; simp at j1; omega
  subst hjl
  ((repeat ((conv => whnf); first | refine brT ?_ | refine brF ?_)); conv => whnf)
  refine fin ?_
  rw [hfam, hok, huok, hsh]
  rfl
end Go.Proofs.Ytfdjeflnjciloaa
