/- Contracts of functions of the program and of its model, told over readings. -/
import Derived.Test.YtgkjafmmekjjlaaCWGB
import Derived.Test.YtgkjafmmekjjlaaCWGA
namespace Go.Proofs.Ytgkjafmmekjjlaa
open Go.Lg
set_option maxHeartbeats 400000
set_option maxRecDepth 10000
set_option linter.unusedVariables false
set_option linter.unusedSimpArgs false

def fits (u : Uni) (p : Per) : Bool := leI p.born u.since && livedTo p (maxI u.since u.till)
def bothFit (ps : List Per) (u : Uni) : Bool := match ps[u.husband.toNat]?, ps[u.wife.toNat]? with
  | some a, some b => fits u a && fits u b
  | _, _ => false
def unionOk (ps : List Per) (before : List Uni) (u : Uni) : Bool :=
  (ofSex ps u.husband 1 && ofSex ps u.wife 2) && ((leI u.since 9999 && endYear u.till u.since) && (notB (before.any (unitedOf u.husband u.wife)) && bothFit ps u))

theorem ofSex_lt {ps : List Per} {x sex : Int} (h : ofSex ps x sex = true) : ∃ (_ : 0 ≤ x) (h : x.toNat < ps.length), ps[x.toNat].sex = sex := by
  unfold ofSex at h
  simp only [Bool.and_eq_true, leI_t] at h
  obtain ⟨h0, h1⟩ := h
  split at h1
  · rename_i q hq
    obtain ⟨hl, rfl⟩ := List.getElem?_eq_some_iff.1 hq
    exact ⟨h0, hl, eqI_t.1 h1⟩
  · cases h1

/-- impl.isUnionAfter -/
theorem isUnionAfter_spec (ps : List Per) (us : List Uni) (u : Uni) : FSpec env.P 132 [.sl (us.map Uni.lv), u.lv, .sl (ps.map Per.lv)] (.bool (unionOk ps us u)) := by
  refine FSpec_of_code env_ok (fn := Try.f132) Try.func132 rfl Try.call132 _ _ ?_
  ((repeat' (((repeat ((conv => whnf); first | refine brT ?_ | refine brF ?_)); conv => whnf); first | (refine And.intro ?_ ?_ <;> (intro h; rw [h]; revert h; intro _)) | (refine Exists.intro true (And.intro (a := drawB _ _ = true) (by kernel_rfl) ?_)) | (refine Exists.intro _ (And.intro (isOfSex_spec ps _ _) ?_)) | (refine Exists.intro _ (And.intro (isEndYear_spec _ _) ?_)) | (refine Exists.intro _ (And.intro (isUnited_spec us _ _) ?_)))); all_goals ((repeat ((conv => whnf); first | refine brT ?_ | refine brF ?_)); conv => whnf))
  all_goals first
    | (refine fin ?_; grind [unionOk, notB_t, notB_f, ltI_t, ltI_f, leI_t, leI_f])
    | skip
  rename_i s1 s2 s3 s4 s5
  rw [notB_f] at s1 s2 s4
  obtain ⟨m0, ml, _⟩ := ofSex_lt s1
  obtain ⟨w0, wl, _⟩ := ofSex_lt s2
  have hb : bothFit ps u = (fits u ps[u.husband.toNat] && fits u ps[u.wife.toNat]) := by simp [bothFit, ml, wl]
  have hu : unionOk ps us u = (fits u ps[u.husband.toNat] && fits u ps[u.wife.toNat]) := by
    have s3' : leI u.since 9999 = true := by rw [leI_t]; rw [ltI_f] at s3; exact s3
    unfold unionOk
    rw [hb, s1, s2, s3', s4, s5]
    simp [notB]
  refine ⟨u.husband.toNat, ps[u.husband.toNat].lv, by omega, by simp [ml], rfl, ?_⟩
  ((repeat ((conv => whnf); first | refine brT ?_ | refine brF ?_)); conv => whnf)
  refine ⟨u.wife.toNat, ps[u.wife.toNat].lv, by omega, by simp [wl], rfl, ?_⟩
  ((repeat ((conv => whnf); first | refine brT ?_ | refine brF ?_)); conv => whnf)
  refine ⟨rfl, fun _ => ?_⟩
  ((repeat ((conv => whnf); first | refine brT ?_ | refine brF ?_)); conv => whnf)
  generalize ps[u.husband.toNat] = a at hu ⊢
  generalize ps[u.wife.toNat] = b at hu ⊢
  refine loop_rule (α := Nat) (fun k => [(58, .int .i64 (k : Int))]) (fun k => [.box u.lv, .arr 106 6 [a.lv, b.lv]]) (fun k => 2 - k) (fun k => k ≤ 2 ∧ ∀ j (h : j < 2), j < k → fits u ([a, b][j]'h) = true) 0 ⟨Nat.zero_le _, fun j h k => by omega⟩ ?_ ?_
  · refine ⟨?_, ⟨rfl, rfl, trivial⟩, rfl, rfl⟩
    ((repeat ((conv => whnf); refine ⟨rfl, ?_⟩)); trivial)
  rintro k ⟨hk, hf⟩
  ((repeat ((conv => whnf); first | refine brT ?_ | refine brF ?_)); conv => whnf)
  (refine ⟨fun h1 => ?_, fun h1 => ?_⟩ <;> rw [h1])
  · have hlt : k < 2 := by rw [ltI_t] at h1; simp at h1; omega
    have e : LV.int .i64 (IntKind.i64.wrap ((k : Int) + 1)) = LV.int .i64 ((k + 1 : Nat) : Int) := step_i hlt (by decide)
    have hno : fits u ([a, b][k]'hlt) = false → unionOk ps us u = false := fun h => by
      rw [hu]
      match k, hlt, h with
      | 0, _, h => simp at h; simp [h]
      | 1, _, h => simp at h; simp [h]
    ((repeat ((conv => whnf); first | refine brT ?_ | refine brF ?_)); conv => whnf)
    refine ⟨rfl, by decide, k, rfl, hlt, ?_⟩
    ((repeat ((conv => whnf); first | refine brT ?_ | refine brF ?_)); conv => whnf)
    refine ⟨rfl, by simp, ([a, b][k]'hlt).lv, ?_, rfl, ?_⟩
    · match k, hlt with
      | 0, _ => rfl
      | 1, _ => rfl
    ((repeat' (((repeat ((conv => whnf); first | refine brT ?_ | refine brF ?_)); conv => whnf); first | (refine And.intro ?_ ?_ <;> (intro h; rw [h]; revert h; intro _)) | (refine Exists.intro true (And.intro (a := drawB _ _ = true) (by kernel_rfl) ?_)) | (refine Exists.intro _ (And.intro (livedTo_spec ([a, b][k]'hlt) _) ?_)))); all_goals ((repeat ((conv => whnf); first | refine brT ?_ | refine brF ?_)); conv => whnf))
    · refine fin ?_
      rw [hno]
      grind [fits, notB_t, notB_f, ltI_t, ltI_f, leI_t, leI_f]
    · refine fin ?_
      rw [hno]
      grind [fits, notB_t, notB_f, ltI_t, ltI_f, leI_t, leI_f]
    · rename_i g1 g2
      refine round_end (k + 1) ⟨hlt, fun j hj hjk => ?_⟩ (by omega) ⟨?_, ⟨rfl, rfl, trivial⟩, rfl, rfl⟩
      · by_cases ej : j = k
        · subst ej
          grind [fits, notB_t, notB_f, ltI_t, ltI_f, leI_t, leI_f]
        · exact hf j hj (by omega)
      · ((repeat ((conv => whnf); first | refine ⟨e, ?_⟩ | refine ⟨rfl, ?_⟩)); trivial)
  · have h3 : k = 2 := by rw [ltI_f] at h1; simp at h1; omega
    subst h3
    ((repeat ((conv => whnf); first | refine brT ?_ | refine brF ?_)); conv => whnf)
    refine fin ?_
    have f0 := hf 0 (by omega) (by omega)
    have f1 := hf 1 (by omega) (by omega)
    simp at f0 f1
    rw [hu, f0, f1]
    rfl
end Go.Proofs.Ytgkjafmmekjjlaa


namespace Go.Proofs.Ytgkjafmmekjjlaa
open Go.Lg
set_option maxHeartbeats 800000
set_option maxRecDepth 10000
set_option linter.unusedVariables false
set_option linter.unusedSimpArgs false

theorem in_iff {x : Int} {n : Nat} (hn : n ≤ 1000) : (leI 0 x && leI x (IntKind.i64.wrap ((n : Int) - 1))) = true ↔ 0 ≤ x ∧ x < n := by
  rw [wrap64 (by omega) (by omega), Bool.and_eq_true, leI_t, leI_t]
  omega

theorem unitedTo_succ {us : List Uni} {m f : Int} {j : Nat} (h : j < us.length) : (us.take (j + 1)).any (unitedOf m f) = ((us.take j).any (unitedOf m f) || unitedOf m f us[j]) := by
  rw [List.take_succ_eq_append_getElem h, List.any_append]
  simp
theorem united_yes {us : List Uni} {m f : Int} {j k : Nat} (hj : j < k) (h : j < us.length) (e : unitedOf m f us[j] = true) : (us.take k).any (unitedOf m f) = true := by
  rw [List.any_eq_true]
  refine ⟨us[j], ?_, e⟩
  rw [List.mem_take_iff_getElem]
  exact ⟨j, by omega, rfl⟩

/-- spec.l1Union -/
theorem l1Union_spec (ps : List Per) (us : List Uni) (k : Nat) (hk : k < us.length) (hl : ps.length ≤ 40) (hul : us.length ≤ 60) : FSpec env.P 138 [famLV ps us, .int .i64 (k : Int)] (.bool (unionOk ps (us.take k) us[k])) := by
  refine FSpec_of_code env_ok (fn := Try.f138) Try.func138 rfl Try.call138 _ _ ?_
  ((repeat ((conv => whnf); first | refine brT ?_ | refine brF ?_)); conv => whnf)
  refine ⟨k, us[k].lv, rfl, by simp [hk], rfl, ?_⟩
  ((repeat ((conv => whnf); first | refine brT ?_ | refine brF ?_)); conv => whnf)
  intro hn
  have hlen : ((ps.map Per.lv).length : Int) = ps.length := by simp
  rw [hlen]
  have hin : ∀ x : Int, (leI 0 x && leI x (IntKind.i64.wrap ((ps.length : Int) - 1))) = true ↔ 0 ≤ x ∧ x < ps.length := fun x => in_iff (by omega)
  have hno : ∀ x s : Int, ¬ (0 ≤ x ∧ x < ps.length) → ofSex ps x s = false := fun x s h => by
    cases e : ofSex ps x s with
    | false => rfl
    | true => obtain ⟨a, b, _⟩ := ofSex_lt e; exact absurd ⟨a, by omega⟩ h
  have hsex : ∀ (x s : Int) (h0 : 0 ≤ x) (h : x.toNat < ps.length), ofSex ps x s = eqI ps[x.toNat].sex s := fun x s h0 h => by
    unfold ofSex; rw [leI_t.2 h0, List.getElem?_eq_getElem h]; rfl
  ((repeat' (((repeat ((conv => whnf); first | refine brT ?_ | refine brF ?_)); conv => whnf); first | (refine And.intro ?_ ?_ <;> (intro h; rw [h]; revert h; intro _)) | (refine Exists.intro true (And.intro (a := drawB _ _ = true) (by kernel_rfl) ?_)) | (refine Exists.intro _ (And.intro (l1In_spec _ _ _) ?_)))); all_goals ((repeat ((conv => whnf); first | refine brT ?_ | refine brF ?_)); conv => whnf))
  all_goals first
    | (refine fin ?_; grind [unionOk, notB_t, notB_f])
    | skip
  rename_i a1 a2
  rw [notB_f, hin] at a1 a2
  have ml : us[k].husband.toNat < ps.length := by omega
  have wl : us[k].wife.toNat < ps.length := by omega
  have hm := hsex us[k].husband 1 a1.1 ml
  have hw := hsex us[k].wife 2 a2.1 wl
  have hb : bothFit ps us[k] = (fits us[k] ps[us[k].husband.toNat] && fits us[k] ps[us[k].wife.toNat]) := by simp [bothFit, ml, wl]
  refine ⟨us[k].husband.toNat, ps[us[k].husband.toNat].lv, by omega, by simp [ml], rfl, ?_⟩
  ((repeat ((conv => whnf); first | refine brT ?_ | refine brF ?_)); conv => whnf)
  (refine ⟨fun b1 => ?_, fun b1 => ?_⟩ <;> rw [b1])
  · rw [notB_t] at b1
    ((repeat ((conv => whnf); first | refine brT ?_ | refine brF ?_)); conv => whnf); refine fin ?_
    simp [unionOk, hm, b1]
  rw [notB_f] at b1
  ((repeat ((conv => whnf); first | refine brT ?_ | refine brF ?_)); conv => whnf)
  refine ⟨us[k].wife.toNat, ps[us[k].wife.toNat].lv, by omega, by simp [wl], rfl, ?_⟩
  ((repeat' (((repeat ((conv => whnf); first | refine brT ?_ | refine brF ?_)); conv => whnf); first | (refine And.intro ?_ ?_ <;> (intro h; rw [h]; revert h; intro _)) | (refine Exists.intro true (And.intro (a := drawB _ _ = true) (by kernel_rfl) ?_)) | (refine Exists.intro _ (And.intro (l1In_spec _ _ _) ?_)))); all_goals ((repeat ((conv => whnf); first | refine brT ?_ | refine brF ?_)); conv => whnf))
  all_goals first
    | (refine fin ?_; grind [unionOk, endYear, notB_t, notB_f, ltI_t, ltI_f, leI_t, leI_f])
    | skip
  all_goals
    have hu : unionOk ps (us.take k) us[k] = (notB ((us.take k).any (unitedOf us[k].husband us[k].wife)) && (fits us[k] ps[us[k].husband.toNat] && fits us[k] ps[us[k].wife.toNat])) := by
      have s3 : leI us[k].since 9999 = true := by grind [ltI_t, ltI_f, leI_t, leI_f]
      have s4 : endYear us[k].till us[k].since = true := by grind [endYear, notB_t, notB_f]
      have s5 : ofSex ps us[k].wife 2 = true := by grind [notB_t, notB_f]
      unfold unionOk
      rw [hb, hm, b1, s3, s4, s5]
      simp
    refine ⟨rfl, fun _ => ?_⟩
    ((repeat ((conv => whnf); first | refine brT ?_ | refine brF ?_)); conv => whnf)
    refine loop_rule (α := Nat) (fun j => [(75, .int .i64 (j : Int))]) (fun j => [.box (famLV ps us), .box us[k].lv, .arr 3 1 [.int .i64 us[k].husband, .int .i64 us[k].wife]]) (fun j => 2 - j)
      (fun j => j ≤ 2 ∧ ∀ i (h : i < 2), i < j → fits us[k] ([ps[us[k].husband.toNat], ps[us[k].wife.toNat]][i]'h) = true) 0 ⟨Nat.zero_le _, fun j h k => by omega⟩ ?_ ?_
    · refine ⟨?_, ⟨rfl, rfl, rfl, trivial⟩, rfl, rfl⟩
      ((repeat ((conv => whnf); refine ⟨rfl, ?_⟩)); trivial)
    rintro j ⟨hj, hf⟩
    ((repeat ((conv => whnf); first | refine brT ?_ | refine brF ?_)); conv => whnf)
    (refine ⟨fun h1 => ?_, fun h1 => ?_⟩ <;> rw [h1])
    · have hlt : j < 2 := by rw [ltI_t] at h1; simp at h1; omega
      have e : LV.int .i64 (IntKind.i64.wrap ((j : Int) + 1)) = LV.int .i64 ((j + 1 : Nat) : Int) := step_i hlt (by decide)
      have hfno : fits us[k] ([ps[us[k].husband.toNat], ps[us[k].wife.toNat]][j]'hlt) = false → unionOk ps (us.take k) us[k] = false := fun h => by
        rw [hu]
        match j, hlt, h with
        | 0, _, h => simp at h; simp [h]
        | 1, _, h => simp at h; simp [h]
      have hx : ∃ x : Int, ([LV.int .i64 us[k].husband, LV.int .i64 us[k].wife])[j]? = some (.int .i64 x) ∧ 0 ≤ x ∧ ∃ h : x.toNat < ps.length, ps[x.toNat] = [ps[us[k].husband.toNat], ps[us[k].wife.toNat]][j]'hlt := by
        match j, hlt with
        | 0, _ => exact ⟨_, rfl, a1.1, ml, rfl⟩
        | 1, _ => exact ⟨_, rfl, a2.1, wl, rfl⟩
      obtain ⟨x, hx1, hx2, hx3, hx4⟩ := hx
      ((repeat ((conv => whnf); first | refine brT ?_ | refine brF ?_)); conv => whnf)
      refine ⟨rfl, by decide, j, rfl, hlt, ?_⟩
      ((repeat ((conv => whnf); first | refine brT ?_ | refine brF ?_)); conv => whnf)
      refine ⟨rfl, by simp, .int .i64 x, by simp only [getP, hx1], rfl, ?_⟩
      ((repeat ((conv => whnf); first | refine brT ?_ | refine brF ?_)); conv => whnf)
      refine ⟨x.toNat, ps[x.toNat].lv, by omega, by simp [hx3], rfl, ?_⟩
      rw [hx4]
      generalize hq : [ps[us[k].husband.toNat], ps[us[k].wife.toNat]][j]'hlt = q at hfno
      ((repeat' (((repeat ((conv => whnf); first | refine brT ?_ | refine brF ?_)); conv => whnf); (refine And.intro ?_ ?_ <;> (intro h; rw [h]; revert h; intro _)))); all_goals ((repeat ((conv => whnf); first | refine brT ?_ | refine brF ?_)); conv => whnf))
      all_goals first
        | (refine fin ?_
           rw [hfno]
           have hmx : leI (maxI us[k].since us[k].till) q.died = (leI us[k].since q.died && leI us[k].till q.died) := by
             rw [Bool.eq_iff_iff]; simp only [Bool.and_eq_true, leI_t]; unfold maxI; split <;> omega
           simp only [fits, livedTo, hmx]
           grind [notB_t, notB_f, ltI_t, ltI_f, leI_t, leI_f, eqI_t, eqI_f])
        | skip
      all_goals
        refine round_end (j + 1) ⟨hlt, fun i hi hij => ?_⟩ (by omega) ⟨?_, ⟨rfl, rfl, rfl, trivial⟩, rfl, rfl⟩
        · by_cases ej : i = j
          · subst ej
            rw [hq]
            have hmx : leI (maxI us[k].since us[k].till) q.died = (leI us[k].since q.died && leI us[k].till q.died) := by
              rw [Bool.eq_iff_iff]; simp only [Bool.and_eq_true, leI_t]; unfold maxI; split <;> omega
            simp only [fits, livedTo, hmx]
            grind [notB_t, notB_f, ltI_t, ltI_f, leI_t, leI_f, eqI_t, eqI_f]
          · exact hf i hi (by omega)
        · ((repeat ((conv => whnf); first | refine ⟨e, ?_⟩ | refine ⟨rfl, ?_⟩)); trivial)
    · have h3 : j = 2 := by rw [ltI_f] at h1; simp at h1; omega
      subst h3
      have f0 := hf 0 (by omega) (by omega)
      have f1 := hf 1 (by omega) (by omega)
      simp at f0 f1
      have hu' : unionOk ps (us.take k) us[k] = notB ((us.take k).any (unitedOf us[k].husband us[k].wife)) := by rw [hu, f0, f1]; simp
      ((repeat ((conv => whnf); first | refine brT ?_ | refine brF ?_)); conv => whnf)
      refine loop_rule (α := Nat) (fun j => [(10, .int .i64 (j : Int))]) (fun j => [.box (famLV ps us), .box us[k].lv, .arr 3 1 [.int .i64 us[k].husband, .int .i64 us[k].wife]]) (fun j => k - j)
        (fun j => j ≤ k ∧ (us.take j).any (unitedOf us[k].husband us[k].wife) = false) 0 ⟨Nat.zero_le _, rfl⟩ ?_ ?_
      · refine ⟨?_, ⟨rfl, rfl, rfl, trivial⟩, rfl, rfl⟩
        ((repeat ((conv => whnf); refine ⟨rfl, ?_⟩)); trivial)
      rintro j ⟨hj, hf⟩
      ((repeat ((conv => whnf); first | refine brT ?_ | refine brF ?_)); conv => whnf)
      (refine ⟨fun g1 => ?_, fun g1 => ?_⟩ <;> rw [g1])
      · have hjl : j < k := by rw [ltI_t] at g1; omega
        have hju : j < us.length := by omega
        have e := step_i hjl (by unfold Go.maxLen; omega)
        ((repeat ((conv => whnf); first | refine brT ?_ | refine brF ?_)); conv => whnf)
        refine ⟨true, by kernel_rfl, ?_⟩
        ((repeat ((conv => whnf); first | refine brT ?_ | refine brF ?_)); conv => whnf)
        refine ⟨j, us[j].lv, rfl, by simp [hju], rfl, ?_⟩
        ((repeat ((conv => whnf); first | refine brT ?_ | refine brF ?_)); conv => whnf)
        (refine ⟨fun g2 => ?_, fun g2 => ?_⟩ <;> rw [g2])
        · ((repeat ((conv => whnf); first | refine brT ?_ | refine brF ?_)); conv => whnf)
          refine ⟨j, us[j].lv, rfl, by simp [hju], rfl, ?_⟩
          ((repeat ((conv => whnf); first | refine brT ?_ | refine brF ?_)); conv => whnf)
          (refine ⟨fun g3 => ?_, fun g3 => ?_⟩ <;> rw [g3])
          · ((repeat ((conv => whnf); first | refine brT ?_ | refine brF ?_)); conv => whnf)
            refine fin ?_
            rw [hu', united_yes hjl hju (by simp [unitedOf, g2, g3])]
            simp [notB]
          · ((repeat ((conv => whnf); first | refine brT ?_ | refine brF ?_)); conv => whnf)
            refine round_end (j + 1) ⟨hjl, by rw [unitedTo_succ hju, hf]; simp [unitedOf, g3]⟩ (by omega) ⟨?_, ⟨rfl, rfl, rfl, trivial⟩, rfl, rfl⟩
            ((repeat ((conv => whnf); first | refine ⟨e, ?_⟩ | refine ⟨rfl, ?_⟩)); trivial)
        · ((repeat ((conv => whnf); first | refine brT ?_ | refine brF ?_)); conv => whnf)
          refine round_end (j + 1) ⟨hjl, by rw [unitedTo_succ hju, hf]; simp [unitedOf, g2]⟩ (by omega) ⟨?_, ⟨rfl, rfl, rfl, trivial⟩, rfl, rfl⟩
          ((repeat ((conv => whnf); first | refine ⟨e, ?_⟩ | refine ⟨rfl, ?_⟩)); trivial)
      · have hjk : j = k := by rw [ltI_f] at g1; omega
        subst hjk
        ((repeat ((conv => whnf); first | refine brT ?_ | refine brF ?_)); conv => whnf)
        refine fin ?_
        rw [hu', hf]
        simp [notB]
end Go.Proofs.Ytgkjafmmekjjlaa


namespace Go.Proofs.Ytgkjafmmekjjlaa
open Go.Lg
set_option maxHeartbeats 400000
set_option maxRecDepth 10000
set_option linter.unusedVariables false
set_option linter.unusedSimpArgs false

/-- impl.isPersonAfter -/
def personOk (ps : List Per) (p : Per) : Bool := match findFrom p.name 0 ps with
  | some _ => false
  | none => isName p.name && ((eqI p.sex 1 || eqI p.sex 2) && ((leI 0 p.born && (leI p.born 9999 && endYear p.died p.born)) &&
      (parentOk ps p.father 1 p.born && parentOk ps p.mother 2 p.born)))
theorem isPersonAfter_spec (ps : List Per) (p : Per) : FSpec env.P 131 [.sl (ps.map Per.lv), p.lv] (.bool (personOk ps p)) := by
  refine FSpec_of_code env_ok (fn := Try.f131) Try.func131 rfl Try.call131 _ _ ?_
  ((repeat ((conv => whnf); first | refine brT ?_ | refine brF ?_)); conv => whnf)
  refine ⟨_, indexOfName_spec ps p.name, ?_⟩
  cases hf : findFrom p.name 0 ps with
  | some i =>
    ((repeat ((conv => whnf); first | refine brT ?_ | refine brF ?_)); conv => whnf)
    refine fin ?_
    simp [personOk, hf]
  | none =>
    ((repeat ((conv => whnf); first | refine brT ?_ | refine brF ?_)); conv => whnf)
    refine ⟨_, isNameImpl_spec p.name, ?_⟩
    ((repeat ((conv => whnf); first | refine brT ?_ | refine brF ?_)); conv => whnf)
    refine ⟨fun h => ?_, fun h => ?_⟩ <;> rw [h]
    · ((repeat ((conv => whnf); first | refine brT ?_ | refine brF ?_)); conv => whnf); refine fin ?_; rw [notB_t] at h; simp [personOk, hf, h]
    rw [notB_f] at h
    ((repeat ((conv => whnf); first | refine brT ?_ | refine brF ?_)); conv => whnf)
    refine ⟨fun h1 => ?_, fun h1 => ?_⟩ <;> rw [h1]
    · rw [notB_t] at h1
      ((repeat ((conv => whnf); first | refine brT ?_ | refine brF ?_)); conv => whnf)
      refine ⟨fun h2 => ?_, fun h2 => ?_⟩ <;> rw [h2]
      · ((repeat ((conv => whnf); first | refine brT ?_ | refine brF ?_)); conv => whnf); refine fin ?_; rw [notB_t] at h2; simp [personOk, hf, h1, h2]
      rw [notB_f] at h2
      have hs : (eqI p.sex 1 || eqI p.sex 2) = true := by simp [h2]
      ((repeat ((conv => whnf); first | refine brT ?_ | refine brF ?_)); conv => whnf)
      refine ⟨fun b1 => ?_, fun b1 => ?_⟩ <;> rw [b1]
      · ((repeat ((conv => whnf); first | refine brT ?_ | refine brF ?_)); conv => whnf); refine fin ?_; have c1 : leI 0 p.born = false := by rw [leI_f]; rw [ltI_t] at b1; exact b1
        simp [personOk, hf, c1]
      have c1 : leI 0 p.born = true := by rw [leI_t]; rw [ltI_f] at b1; exact b1
      ((repeat ((conv => whnf); first | refine brT ?_ | refine brF ?_)); conv => whnf)
      refine ⟨fun b2 => ?_, fun b2 => ?_⟩ <;> rw [b2]
      · ((repeat ((conv => whnf); first | refine brT ?_ | refine brF ?_)); conv => whnf); refine fin ?_; have c2 : leI p.born 9999 = false := by rw [leI_f]; rw [ltI_t] at b2; exact b2
        simp [personOk, hf, c2]
      have c2 : leI p.born 9999 = true := by rw [leI_t]; rw [ltI_f] at b2; exact b2
      ((repeat ((conv => whnf); first | refine brT ?_ | refine brF ?_)); conv => whnf)
      refine ⟨_, isEndYear_spec _ _, ?_⟩
      ((repeat ((conv => whnf); first | refine brT ?_ | refine brF ?_)); conv => whnf)
      refine ⟨fun b3 => ?_, fun b3 => ?_⟩ <;> rw [b3]
      · ((repeat ((conv => whnf); first | refine brT ?_ | refine brF ?_)); conv => whnf); refine fin ?_; rw [notB_t] at b3; simp [personOk, hf, b3]
      rw [notB_f] at b3
      ((repeat ((conv => whnf); first | refine brT ?_ | refine brF ?_)); conv => whnf)
      refine ⟨_, isParentOf_spec ps _ _ _, ?_⟩
      ((repeat ((conv => whnf); first | refine brT ?_ | refine brF ?_)); conv => whnf)
      refine ⟨fun b4 => ?_, fun b4 => ?_⟩ <;> rw [b4]
      · ((repeat ((conv => whnf); first | refine brT ?_ | refine brF ?_)); conv => whnf)
        refine ⟨_, isParentOf_spec ps _ _ _, ?_⟩
        ((repeat ((conv => whnf); first | refine brT ?_ | refine brF ?_)); conv => whnf); refine fin ?_; simp [personOk, hf, h, hs, c1, c2, b3, b4]
      · ((repeat ((conv => whnf); first | refine brT ?_ | refine brF ?_)); conv => whnf); refine fin ?_; simp [personOk, hf, b4]
    · rw [notB_f] at h1
      have hs : (eqI p.sex 1 || eqI p.sex 2) = true := by simp [h1]
      ((repeat ((conv => whnf); first | refine brT ?_ | refine brF ?_)); conv => whnf)
      refine ⟨fun b1 => ?_, fun b1 => ?_⟩ <;> rw [b1]
      · ((repeat ((conv => whnf); first | refine brT ?_ | refine brF ?_)); conv => whnf); refine fin ?_; have c1 : leI 0 p.born = false := by rw [leI_f]; rw [ltI_t] at b1; exact b1
        simp [personOk, hf, c1]
      have c1 : leI 0 p.born = true := by rw [leI_t]; rw [ltI_f] at b1; exact b1
      ((repeat ((conv => whnf); first | refine brT ?_ | refine brF ?_)); conv => whnf)
      refine ⟨fun b2 => ?_, fun b2 => ?_⟩ <;> rw [b2]
      · ((repeat ((conv => whnf); first | refine brT ?_ | refine brF ?_)); conv => whnf); refine fin ?_; have c2 : leI p.born 9999 = false := by rw [leI_f]; rw [ltI_t] at b2; exact b2
        simp [personOk, hf, c2]
      have c2 : leI p.born 9999 = true := by rw [leI_t]; rw [ltI_f] at b2; exact b2
      ((repeat ((conv => whnf); first | refine brT ?_ | refine brF ?_)); conv => whnf)
      refine ⟨_, isEndYear_spec _ _, ?_⟩
      ((repeat ((conv => whnf); first | refine brT ?_ | refine brF ?_)); conv => whnf)
      refine ⟨fun b3 => ?_, fun b3 => ?_⟩ <;> rw [b3]
      · ((repeat ((conv => whnf); first | refine brT ?_ | refine brF ?_)); conv => whnf); refine fin ?_; rw [notB_t] at b3; simp [personOk, hf, b3]
      rw [notB_f] at b3
      ((repeat ((conv => whnf); first | refine brT ?_ | refine brF ?_)); conv => whnf)
      refine ⟨_, isParentOf_spec ps _ _ _, ?_⟩
      ((repeat ((conv => whnf); first | refine brT ?_ | refine brF ?_)); conv => whnf)
      refine ⟨fun b4 => ?_, fun b4 => ?_⟩ <;> rw [b4]
      · ((repeat ((conv => whnf); first | refine brT ?_ | refine brF ?_)); conv => whnf)
        refine ⟨_, isParentOf_spec ps _ _ _, ?_⟩
        ((repeat ((conv => whnf); first | refine brT ?_ | refine brF ?_)); conv => whnf); refine fin ?_; simp [personOk, hf, h, hs, c1, c2, b3, b4]
      · ((repeat ((conv => whnf); first | refine brT ?_ | refine brF ?_)); conv => whnf); refine fin ?_; simp [personOk, hf, b4]
end Go.Proofs.Ytgkjafmmekjjlaa


namespace Go.Proofs.Ytgkjafmmekjjlaa
open Go.Lg
set_option maxHeartbeats 800000
set_option maxRecDepth 10000
set_option linter.unusedVariables false
set_option linter.unusedSimpArgs false

def personsTo (ps : List Per) (k : Nat) : Bool := (List.range k).all fun i => match ps[i]? with | some p => personOk (ps.take i) p | none => true
def unionsTo (ps : List Per) (us : List Uni) (k : Nat) : Bool := (List.range k).all fun i => match us[i]? with | some u => unionOk ps (us.take i) u | none => true
def shallow (ds : List Int) : Bool := ds.all fun d => leI d 10
def famOk (ps : List Per) (us : List Uni) : Bool := decide (ps.length ≤ 40) && (decide (us.length ≤ 60) && (personsTo ps ps.length && (unionsTo ps us us.length && shallow (depths ps))))

theorem personsTo_succ {ps : List Per} {k : Nat} (h : k < ps.length) : personsTo ps (k + 1) = (personsTo ps k && personOk (ps.take k) ps[k]) := by
  unfold personsTo
  rw [List.range_succ, List.all_append]
  simp [h]
theorem personsTo_no {ps : List Per} {i k : Nat} (hi : i < k) (h : i < ps.length) (e : personOk (ps.take i) ps[i] = false) : personsTo ps k = false := by
  unfold personsTo
  rw [List.all_eq_false]
  exact ⟨i, List.mem_range.2 hi, by simp [h, e]⟩
theorem unionsTo_succ {ps : List Per} {us : List Uni} {k : Nat} (h : k < us.length) : unionsTo ps us (k + 1) = (unionsTo ps us k && unionOk ps (us.take k) us[k]) := by
  unfold unionsTo
  rw [List.range_succ, List.all_append]
  simp [h]
theorem unionsTo_no {ps : List Per} {us : List Uni} {i k : Nat} (hi : i < k) (h : i < us.length) (e : unionOk ps (us.take i) us[i] = false) : unionsTo ps us k = false := by
  unfold unionsTo
  rw [List.all_eq_false]
  exact ⟨i, List.mem_range.2 hi, by simp [h, e]⟩
theorem personsTo_get {ps : List Per} {k : Nat} (h : personsTo ps k = true) {i : Nat} (hi : i < k) (hl : i < ps.length) : personOk (ps.take i) ps[i] = true := by
  cases e : personOk (ps.take i) ps[i] with
  | true => rfl
  | false => rw [personsTo_no hi hl e] at h; cases h

theorem personOk_spec {ps : List Per} {p : Per} (h : personOk ps p = true) : findFrom p.name 0 ps = none ∧ isName p.name = true ∧ (p.sex = 1 ∨ p.sex = 2) ∧ 0 ≤ p.born ∧ p.born ≤ 9999 ∧ (p.died = -1 ∨ (p.born ≤ p.died ∧ p.died ≤ 9999)) ∧
    parentOk ps p.father 1 p.born = true ∧ parentOk ps p.mother 2 p.born = true := by
  unfold personOk at h
  split at h
  · cases h
  · rename_i hf
    simp only [endYear, Bool.and_eq_true, Bool.or_eq_true, leI_t, eqI_t] at h
    grind
theorem parentOk_in {ps : List Per} {x s b : Int} (h : parentOk ps x s b = true) : parIn x ps.length := by
  unfold parentOk at h
  simp only [Bool.or_eq_true, eqI_t, Bool.and_eq_true, leI_t] at h
  rcases h with h | ⟨h0, h1⟩
  · exact .inl h
  · split at h1
    · cases h1
    · rename_i q hq
      have := lt_of_get hq
      exact .inr ⟨h0, by omega⟩
theorem parsIn_of {ps : List Per} (h : personsTo ps ps.length = true) : parsIn ps := by
  intro i hi
  obtain ⟨_, _, _, _, _, _, h1, h2⟩ := personOk_spec (personsTo_get h hi hi)
  have e : (ps.take i).length = i := by simp; omega
  have a := parentOk_in h1
  have b := parentOk_in h2
  rw [e] at a b
  exact ⟨a, b⟩

theorem shallow_succ {ds : List Int} {k : Nat} (h : k < ds.length) : shallow (ds.take (k + 1)) = (shallow (ds.take k) && leI ds[k] 10) := by
  unfold shallow
  rw [List.take_succ_eq_append_getElem h, List.all_append]
  simp
theorem shallow_no {ds : List Int} {k : Nat} (h : k < ds.length) (e : ltI 10 ds[k] = true) : shallow ds = false := by
  unfold shallow
  rw [List.all_eq_false]
  refine ⟨ds[k], List.getElem_mem h, ?_⟩
  rw [ltI_t] at e
  rw [Bool.not_eq_true, leI_f]; omega
theorem shallow_le {a : Int} (h : ltI 10 a = false) : leI a 10 = true := by rw [leI_t]; rw [ltI_f] at h; omega

theorem isPersonAfter_take (ps : List Per) (k : Nat) (p : Per) : FSpec env.P 131 [.sl (((ps.map Per.lv).drop 0).take (k - 0)), p.lv] (.bool (personOk (ps.take k) p)) := by
  have := isPersonAfter_spec (ps.take k) p
  rw [List.map_take] at this
  simpa using this
theorem isUnionAfter_take (ps : List Per) (us : List Uni) (k : Nat) (u : Uni) : FSpec env.P 132 [.sl (((us.map Uni.lv).drop 0).take (k - 0)), u.lv, .sl (ps.map Per.lv)] (.bool (unionOk ps (us.take k) u)) := by
  have := isUnionAfter_spec ps (us.take k) u
  rw [List.map_take] at this
  simpa using this

/-- impl.IsFamily -/
theorem isFamily_impl (ps : List Per) (us : List Uni) : FSpec env.P 94 [famLV ps us] (.bool (famOk ps us)) := by
  refine FSpec_of_code env_ok (fn := Try.f94) Try.func94 rfl Try.call94 _ _ ?_
  ((repeat ((conv => whnf); first | refine brT ?_ | refine brF ?_)); conv => whnf)
  intro hpn
  ((repeat ((conv => whnf); first | refine brT ?_ | refine brF ?_)); conv => whnf)
  (refine ⟨fun h1 => ?_, fun h1 => ?_⟩ <;> rw [h1])
  · ((repeat ((conv => whnf); first | refine brT ?_ | refine brF ?_)); conv => whnf)
    refine fin ?_
    have : decide (ps.length ≤ 40) = false := by rw [ltI_t] at h1; simp at h1; simp; omega
    simp [famOk, this]
  have hl : ps.length ≤ 40 := by rw [ltI_f] at h1; simp at h1; omega
  ((repeat ((conv => whnf); first | refine brT ?_ | refine brF ?_)); conv => whnf)
  intro hun
  ((repeat ((conv => whnf); first | refine brT ?_ | refine brF ?_)); conv => whnf)
  (refine ⟨fun h2 => ?_, fun h2 => ?_⟩ <;> rw [h2])
  · ((repeat ((conv => whnf); first | refine brT ?_ | refine brF ?_)); conv => whnf)
    refine fin ?_
    have : decide (us.length ≤ 60) = false := by rw [ltI_t] at h2; simp at h2; simp; omega
    simp [famOk, this]
  have hul : us.length ≤ 60 := by rw [ltI_f] at h2; simp at h2; omega
  have hp' : ps.length ≤ Go.maxLen := by simpa using hpn
  have hu' : us.length ≤ Go.maxLen := by simpa using hun
  have hfam : famOk ps us = (personsTo ps ps.length && (unionsTo ps us us.length && shallow (depths ps))) := by simp [famOk, hl, hul]
  ((repeat ((conv => whnf); first | refine brT ?_ | refine brF ?_)); conv => whnf)
  intro _
  ((repeat ((conv => whnf); first | refine brT ?_ | refine brF ?_)); conv => whnf)
  refine loop_rule (α := Nat) (fun k => [(22, .int .i64 (k : Int))]) (fun k => [.box (famLV ps us)]) (fun k => ps.length - k) (fun k => k ≤ ps.length ∧ personsTo ps k = true) 0 ⟨Nat.zero_le _, rfl⟩ ?_ ?_
  · refine ⟨?_, ⟨rfl, trivial⟩, rfl, rfl⟩
    ((repeat ((conv => whnf); refine ⟨rfl, ?_⟩)); trivial)
  rintro k ⟨hk, hok⟩
  ((repeat ((conv => whnf); first | refine brT ?_ | refine brF ?_)); conv => whnf)
  (refine ⟨fun g1 => ?_, fun g1 => ?_⟩ <;> rw [g1])
  · have hlt : k < ps.length := by rw [ltI_t] at g1; simp at g1; omega
    have e := step_i hlt hp'
    ((repeat ((conv => whnf); first | refine brT ?_ | refine brF ?_)); conv => whnf)
    refine ⟨k, ps[k].lv, rfl, by simp [hlt], rfl, ?_⟩
    ((repeat ((conv => whnf); first | refine brT ?_ | refine brF ?_)); conv => whnf)
    refine ⟨true, by kernel_rfl, ?_⟩
    ((repeat ((conv => whnf); first | refine brT ?_ | refine brF ?_)); conv => whnf)
    refine ⟨0, k, rfl, rfl, by omega, by simp; omega, by simp [Per.lv, LV.size, LV.sizes], ?_⟩
    ((repeat ((conv => whnf); first | refine brT ?_ | refine brF ?_)); conv => whnf)
    refine ⟨_, isPersonAfter_take ps k ps[k], ?_⟩
    ((repeat ((conv => whnf); first | refine brT ?_ | refine brF ?_)); conv => whnf)
    (refine ⟨fun g2 => ?_, fun g2 => ?_⟩ <;> rw [g2])
    · rw [notB_t] at g2
      ((repeat ((conv => whnf); first | refine brT ?_ | refine brF ?_)); conv => whnf)
      refine fin ?_
      rw [hfam, personsTo_no hlt hlt g2]
      rfl
    · rw [notB_f] at g2
      ((repeat ((conv => whnf); first | refine brT ?_ | refine brF ?_)); conv => whnf)
      refine round_end (k + 1) ⟨hlt, by rw [personsTo_succ hlt, hok, g2]; rfl⟩ (by omega) ⟨?_, ⟨rfl, trivial⟩, rfl, rfl⟩
      ((repeat ((conv => whnf); first | refine ⟨e, ?_⟩ | refine ⟨rfl, ?_⟩)); trivial)
  have hkl : k = ps.length := by rw [ltI_f] at g1; simp at g1; omega
  subst hkl
  have hpars := parsIn_of hok
  ((repeat ((conv => whnf); first | refine brT ?_ | refine brF ?_)); conv => whnf)
  intro _
  ((repeat ((conv => whnf); first | refine brT ?_ | refine brF ?_)); conv => whnf)
  refine loop_rule (α := Nat) (fun k => [(38, .int .i64 (k : Int))]) (fun k => [.box (famLV ps us)]) (fun k => us.length - k) (fun k => k ≤ us.length ∧ unionsTo ps us k = true) 0 ⟨Nat.zero_le _, rfl⟩ ?_ ?_
  · refine ⟨?_, ⟨rfl, trivial⟩, rfl, rfl⟩
    ((repeat ((conv => whnf); refine ⟨rfl, ?_⟩)); trivial)
  rintro j ⟨hj, huok⟩
  ((repeat ((conv => whnf); first | refine brT ?_ | refine brF ?_)); conv => whnf)
  (refine ⟨fun j1 => ?_, fun j1 => ?_⟩ <;> rw [j1])
  · have hlt : j < us.length := by rw [ltI_t] at j1; simp at j1; omega
    have e := step_i hlt hu'
    ((repeat ((conv => whnf); first | refine brT ?_ | refine brF ?_)); conv => whnf)
    refine ⟨j, us[j].lv, rfl, by simp [hlt], rfl, ?_⟩
    ((repeat ((conv => whnf); first | refine brT ?_ | refine brF ?_)); conv => whnf)
    refine ⟨true, by kernel_rfl, ?_⟩
    ((repeat ((conv => whnf); first | refine brT ?_ | refine brF ?_)); conv => whnf)
    refine ⟨0, j, rfl, rfl, by omega, by simp; omega, by simp [Uni.lv, LV.size, LV.sizes], ?_⟩
    ((repeat ((conv => whnf); first | refine brT ?_ | refine brF ?_)); conv => whnf)
    refine ⟨_, isUnionAfter_take ps us j us[j], ?_⟩
    ((repeat ((conv => whnf); first | refine brT ?_ | refine brF ?_)); conv => whnf)
    (refine ⟨fun j2 => ?_, fun j2 => ?_⟩ <;> rw [j2])
    · rw [notB_t] at j2
      ((repeat ((conv => whnf); first | refine brT ?_ | refine brF ?_)); conv => whnf)
      refine fin ?_
      rw [hfam, unionsTo_no hlt hlt j2]
      simp
    · rw [notB_f] at j2
      ((repeat ((conv => whnf); first | refine brT ?_ | refine brF ?_)); conv => whnf)
      refine round_end (j + 1) ⟨hlt, by rw [unionsTo_succ hlt, huok, j2]; rfl⟩ (by omega) ⟨?_, ⟨rfl, trivial⟩, rfl, rfl⟩
      ((repeat ((conv => whnf); first | refine ⟨e, ?_⟩ | refine ⟨rfl, ?_⟩)); trivial)
  have hjl : j = us.length := by rw [ltI_f] at j1; simp at j1; omega
  subst hjl
  have hfam2 : famOk ps us = shallow (depths ps) := by rw [hfam, hok, huok]; rfl
  ((repeat ((conv => whnf); first | refine brT ?_ | refine brF ?_)); conv => whnf)
  refine ⟨_, depthsOf_spec ps hl hpars, ?_⟩
  ((repeat ((conv => whnf); first | refine brT ?_ | refine brF ?_)); conv => whnf)
  intro hdn
  have hd' : (depths ps).length ≤ Go.maxLen := by simpa using hdn
  ((repeat ((conv => whnf); first | refine brT ?_ | refine brF ?_)); conv => whnf)
  refine loop_rule (α := Nat) (fun k => [(57, .int .i64 (k : Int))]) (fun k => [.box (famLV ps us)]) (fun k => (depths ps).length - k) (fun k => k ≤ (depths ps).length ∧ shallow ((depths ps).take k) = true) 0 ⟨Nat.zero_le _, rfl⟩ ?_ ?_
  · refine ⟨?_, ⟨rfl, trivial⟩, rfl, rfl⟩
    ((repeat ((conv => whnf); refine ⟨rfl, ?_⟩)); trivial)
  rintro i ⟨hi, hsh⟩
  ((repeat ((conv => whnf); first | refine brT ?_ | refine brF ?_)); conv => whnf)
  (refine ⟨fun d1 => ?_, fun d1 => ?_⟩ <;> rw [d1])
  · have hlt : i < (depths ps).length := by rw [ltI_t] at d1; simp at d1; omega
    have e := step_i hlt hd'
    ((repeat ((conv => whnf); first | refine brT ?_ | refine brF ?_)); conv => whnf)
    refine ⟨i, .int .i64 (depths ps)[i], rfl, by simp [hlt, intLV], rfl, ?_⟩
    ((repeat ((conv => whnf); first | refine brT ?_ | refine brF ?_)); conv => whnf)
    (refine ⟨fun d2 => ?_, fun d2 => ?_⟩ <;> rw [d2])
    · ((repeat ((conv => whnf); first | refine brT ?_ | refine brF ?_)); conv => whnf)
      refine fin ?_
      rw [hfam2, shallow_no hlt d2]
    · ((repeat ((conv => whnf); first | refine brT ?_ | refine brF ?_)); conv => whnf)
      refine round_end (i + 1) ⟨hlt, by rw [shallow_succ hlt, hsh, shallow_le d2]; rfl⟩ (by omega) ⟨?_, ⟨rfl, trivial⟩, rfl, rfl⟩
      ((repeat ((conv => whnf); first | refine ⟨e, ?_⟩ | refine ⟨rfl, ?_⟩)); trivial)
  · have hil : i = (depths ps).length := by rw [ltI_f] at d1; simp at d1; omega
    subst hil
    rw [List.take_length] at hsh
    ((repeat ((conv => whnf); first | refine brT ?_ | refine brF ?_)); conv => whnf)
    refine fin ?_
    rw [hfam2, hsh]

/-- Asked of the person in the family, or of the person behind those before: the same, if those before are valid. -/
theorem parentAt_eq {ps : List Per} {i : Nat} {x sex born late : Int} (hl : i < ps.length) (hok : personsTo ps i = true) (h0 : 0 ≤ born) (h1 : born ≤ 9999) (hs : (sex = 1 ∧ late = 1) ∨ (sex = 2 ∧ late = 0)) :
    parentAt ps i x sex late born = parentOk (ps.take i) x sex born := by
  unfold parentAt parentOk
  congr 1
  cases e0 : leI 0 x with
  | false => rfl
  | true =>
    rw [leI_t] at e0
    simp only [Bool.true_and]
    by_cases hx : x < i
    · have hxl : x.toNat < ps.length := by omega
      have e1 : ltI x i = true := ltI_t.2 hx
      have e2 : (ps.take i)[x.toNat]? = some ps[x.toNat] := by rw [List.getElem?_take_of_lt (by omega)]; exact List.getElem?_eq_getElem hxl
      rw [e1, e2, List.getElem?_eq_getElem hxl]
      simp only [Bool.true_and]
      have hq := personOk_spec (personsTo_get hok (i := x.toNat) (by omega) hxl)
      generalize ps[x.toNat] = q at hq ⊢
      congr 1
      congr 1
      have hd := hq.2.2.2.2.2.1
      have hb := hq.2.2.2.1
      rcases hs with ⟨rfl, rfl⟩ | ⟨rfl, rfl⟩
      · have w1 : IntKind.i64.wrap (q.died + 1) = q.died + 1 := wrap64 (by omega) (by omega)
        have w2 : IntKind.i64.wrap (born - 1) = born - 1 := wrap64 (by omega) (by omega)
        rw [show eqI (1 : Int) 1 = true from eqI_t.2 rfl]
        simp only [livedTo, w1, w2]
        congr 1
        rw [Bool.eq_iff_iff, leI_t, leI_t]
        omega
      · have w1 : IntKind.i64.wrap (q.died + 0) = q.died + 0 := wrap64 (by omega) (by omega)
        rw [show eqI (2 : Int) 1 = false from eqI_f.2 (by decide)]
        simp only [livedTo, w1]
        congr 1
        rw [Bool.eq_iff_iff, leI_t, leI_t]
        omega
    · have e1 : ltI x i = false := ltI_f.2 (by omega)
      have e2 : (ps.take i)[x.toNat]? = none := by rw [List.getElem?_eq_none]; simp; omega
      rw [e1, e2]
      rfl

theorem findFrom_fresh {n : ByteArray} : ∀ (ps : List Per) (i : Nat), (findFrom n i ps = none) ↔ (ps.all fun q => notB (eqS q.name n)) = true
  | [], _ => by simp [findFrom]
  | p :: ps, i => by
    simp only [findFrom, List.all_cons, Bool.and_eq_true]
    cases e : eqS p.name n
    · rw [findFrom_fresh ps (i + 1)]; simp [notB]
    · simp [notB]

theorem personAt_eq {ps : List Per} {i : Nat} (hl : i < ps.length) (hok : personsTo ps i = true) : personAt ps i ps[i] = personOk (ps.take i) ps[i] := by
  generalize ps[i] = p
  unfold personAt personOk fresh
  have hf := findFrom_fresh (n := p.name) (ps.take i) 0
  cases e : findFrom p.name 0 (ps.take i) with
  | some j =>
    have : ((ps.take i).all fun q => notB (eqS q.name p.name)) = false := by
      cases h : ((ps.take i).all fun q => notB (eqS q.name p.name)) with
      | false => rfl
      | true => rw [hf.2 h] at e; cases e
    rw [this]
    simp
  | none =>
    rw [hf.1 e]
    by_cases hb : 0 ≤ p.born ∧ p.born ≤ 9999
    · rw [parentAt_eq hl hok hb.1 hb.2 (.inl ⟨rfl, rfl⟩), parentAt_eq hl hok hb.1 hb.2 (.inr ⟨rfl, rfl⟩)]
      simp only [Bool.true_and]
      generalize parentOk (ps.take i) p.father 1 p.born = A
      generalize parentOk (ps.take i) p.mother 2 p.born = B
      unfold shapeOk endYear
      have : (leI 1 p.sex && leI p.sex 2) = (eqI p.sex 1 || eqI p.sex 2) := by
        rw [Bool.eq_iff_iff]; simp only [Bool.and_eq_true, Bool.or_eq_true, leI_t, eqI_t]; omega
      rw [this]
      generalize leI 0 p.born = a
      generalize leI p.born 9999 = b
      generalize isName p.name = c
      generalize (eqI p.sex 1 || eqI p.sex 2) = d
      generalize (eqI p.died (-1) || leI p.born p.died && leI p.died 9999) = e
      cases a <;> cases b <;> cases c <;> cases d <;> cases e <;> cases A <;> cases B <;> rfl
    · have hn : (leI 0 p.born && leI p.born 9999) = false := by
        cases h : (leI 0 p.born && leI p.born 9999) with
        | false => rfl
        | true => simp only [Bool.and_eq_true, leI_t] at h; exact absurd h hb
      have e1 : shapeOk p = false := by unfold shapeOk; rw [hn]; simp
      rw [e1]
      have : (leI 0 p.born && (leI p.born 9999 && endYear p.died p.born)) = false := by
        rw [← Bool.and_assoc, hn]; rfl
      rw [this]
      simp

/-- spec.IsFamily -/
theorem isFamily_spec (ps : List Per) (us : List Uni) : FSpec env.P 100 [famLV ps us] (.bool (famOk ps us)) := by
  refine FSpec_of_code env_ok (fn := Try.f100) Try.func100 rfl Try.call100 _ _ ?_
  ((repeat ((conv => whnf); first | refine brT ?_ | refine brF ?_)); conv => whnf)
  intro hpn
  ((repeat ((conv => whnf); first | refine brT ?_ | refine brF ?_)); conv => whnf)
  (refine ⟨fun h1 => ?_, fun h1 => ?_⟩ <;> rw [h1])
  · ((repeat ((conv => whnf); first | refine brT ?_ | refine brF ?_)); conv => whnf)
    refine fin ?_
    have : decide (ps.length ≤ 40) = false := by rw [ltI_t] at h1; simp at h1; simp; omega
    simp [famOk, this]
  have hl : ps.length ≤ 40 := by rw [ltI_f] at h1; simp at h1; omega
  ((repeat ((conv => whnf); first | refine brT ?_ | refine brF ?_)); conv => whnf)
  intro hun
  ((repeat ((conv => whnf); first | refine brT ?_ | refine brF ?_)); conv => whnf)
  (refine ⟨fun h2 => ?_, fun h2 => ?_⟩ <;> rw [h2])
  · ((repeat ((conv => whnf); first | refine brT ?_ | refine brF ?_)); conv => whnf)
    refine fin ?_
    have : decide (us.length ≤ 60) = false := by rw [ltI_t] at h2; simp at h2; simp; omega
    simp [famOk, this]
  have hul : us.length ≤ 60 := by rw [ltI_f] at h2; simp at h2; omega
  have hp' : ps.length ≤ Go.maxLen := by simpa using hpn
  have hu' : us.length ≤ Go.maxLen := by simpa using hun
  have hfam : famOk ps us = (personsTo ps ps.length && (unionsTo ps us us.length && shallow (depths ps))) := by simp [famOk, hl, hul]
  ((repeat ((conv => whnf); first | refine brT ?_ | refine brF ?_)); conv => whnf)
  intro _
  ((repeat ((conv => whnf); first | refine brT ?_ | refine brF ?_)); conv => whnf)
  refine loop_rule (α := Nat) (fun k => [(20, .int .i64 (k : Int))]) (fun k => [.box (famLV ps us)]) (fun k => ps.length - k) (fun k => k ≤ ps.length ∧ personsTo ps k = true) 0 ⟨Nat.zero_le _, rfl⟩ ?_ ?_
  · refine ⟨?_, ⟨rfl, trivial⟩, rfl, rfl⟩
    ((repeat ((conv => whnf); refine ⟨rfl, ?_⟩)); trivial)
  rintro k ⟨hk, hok⟩
  ((repeat ((conv => whnf); first | refine brT ?_ | refine brF ?_)); conv => whnf)
  (refine ⟨fun g1 => ?_, fun g1 => ?_⟩ <;> rw [g1])
  · have hlt : k < ps.length := by rw [ltI_t] at g1; simp at g1; omega
    have e := step_i hlt hp'
    have hpe := personAt_eq hlt hok
    ((repeat ((conv => whnf); first | refine brT ?_ | refine brF ?_)); conv => whnf)
    refine ⟨_, l1Person_spec ps us k hlt hl, ?_⟩
    rw [hpe]
    ((repeat ((conv => whnf); first | refine brT ?_ | refine brF ?_)); conv => whnf)
    (refine ⟨fun g2 => ?_, fun g2 => ?_⟩ <;> rw [g2])
    · rw [notB_t] at g2
      ((repeat ((conv => whnf); first | refine brT ?_ | refine brF ?_)); conv => whnf)
      refine fin ?_
      rw [hfam, personsTo_no hlt hlt g2]
      rfl
    · rw [notB_f] at g2
      ((repeat ((conv => whnf); first | refine brT ?_ | refine brF ?_)); conv => whnf)
      refine round_end (k + 1) ⟨hlt, by rw [personsTo_succ hlt, hok, g2]; rfl⟩ (by omega) ⟨?_, ⟨rfl, trivial⟩, rfl, rfl⟩
      ((repeat ((conv => whnf); first | refine ⟨e, ?_⟩ | refine ⟨rfl, ?_⟩)); trivial)
  have hkl : k = ps.length := by rw [ltI_f] at g1; simp at g1; omega
  subst hkl
  have hpars := parsIn_of hok
  ((repeat ((conv => whnf); first | refine brT ?_ | refine brF ?_)); conv => whnf)
  refine ⟨_, l1Depths_spec ps us hl hpars, ?_⟩
  ((repeat ((conv => whnf); first | refine brT ?_ | refine brF ?_)); conv => whnf)
  intro hdn
  have hd' : (depths ps).length ≤ Go.maxLen := by simpa using hdn
  ((repeat ((conv => whnf); first | refine brT ?_ | refine brF ?_)); conv => whnf)
  refine loop_rule (α := Nat) (fun k => [(31, .int .i64 (k : Int))]) (fun k => [.box (famLV ps us)]) (fun k => (depths ps).length - k) (fun k => k ≤ (depths ps).length ∧ shallow ((depths ps).take k) = true) 0 ⟨Nat.zero_le _, rfl⟩ ?_ ?_
  · refine ⟨?_, ⟨rfl, trivial⟩, rfl, rfl⟩
    ((repeat ((conv => whnf); refine ⟨rfl, ?_⟩)); trivial)
  rintro i ⟨hi, hsh⟩
  ((repeat ((conv => whnf); first | refine brT ?_ | refine brF ?_)); conv => whnf)
  (refine ⟨fun d1 => ?_, fun d1 => ?_⟩ <;> rw [d1])
  · have hlt : i < (depths ps).length := by rw [ltI_t] at d1; simp at d1; omega
    have e := step_i hlt hd'
    ((repeat ((conv => whnf); first | refine brT ?_ | refine brF ?_)); conv => whnf)
    refine ⟨i, .int .i64 (depths ps)[i], rfl, by simp [hlt, intLV], rfl, ?_⟩
    ((repeat ((conv => whnf); first | refine brT ?_ | refine brF ?_)); conv => whnf)
    (refine ⟨fun d2 => ?_, fun d2 => ?_⟩ <;> rw [d2])
    · ((repeat ((conv => whnf); first | refine brT ?_ | refine brF ?_)); conv => whnf)
      refine fin ?_
      rw [hfam, shallow_no hlt d2]
      simp
    · ((repeat ((conv => whnf); first | refine brT ?_ | refine brF ?_)); conv => whnf)
      refine round_end (i + 1) ⟨hlt, by rw [shallow_succ hlt, hsh, shallow_le d2]; rfl⟩ (by omega) ⟨?_, ⟨rfl, trivial⟩, rfl, rfl⟩
      ((repeat ((conv => whnf); first | refine ⟨e, ?_⟩ | refine ⟨rfl, ?_⟩)); trivial)
  have hil : i = (depths ps).length := by rw [ltI_f] at d1; simp at d1; omega
  subst hil
  rw [List.take_length] at hsh
  ((repeat ((conv => whnf); first | refine brT ?_ | refine brF ?_)); conv => whnf)
  intro _
  ((repeat ((conv => whnf); first | refine brT ?_ | refine brF ?_)); conv => whnf)
  refine loop_rule (α := Nat) (fun k => [(41, .int .i64 (k : Int))]) (fun k => [.box (famLV ps us)]) (fun k => us.length - k) (fun k => k ≤ us.length ∧ unionsTo ps us k = true) 0 ⟨Nat.zero_le _, rfl⟩ ?_ ?_
  · refine ⟨?_, ⟨rfl, trivial⟩, rfl, rfl⟩
    ((repeat ((conv => whnf); refine ⟨rfl, ?_⟩)); trivial)
  rintro j ⟨hj, huok⟩
  ((repeat ((conv => whnf); first | refine brT ?_ | refine brF ?_)); conv => whnf)
  (refine ⟨fun j1 => ?_, fun j1 => ?_⟩ <;> rw [j1])
  · have hlt : j < us.length := by rw [ltI_t] at j1; simp at j1; omega
    have e := step_i hlt hu'
    ((repeat ((conv => whnf); first | refine brT ?_ | refine brF ?_)); conv => whnf)
    refine ⟨_, l1Union_spec ps us j hlt hl hul, ?_⟩
    ((repeat ((conv => whnf); first | refine brT ?_ | refine brF ?_)); conv => whnf)
    (refine ⟨fun j2 => ?_, fun j2 => ?_⟩ <;> rw [j2])
    · rw [notB_t] at j2
      ((repeat ((conv => whnf); first | refine brT ?_ | refine brF ?_)); conv => whnf)
      refine fin ?_
      rw [hfam, unionsTo_no hlt hlt j2]
      simp
    · rw [notB_f] at j2
      ((repeat ((conv => whnf); first | refine brT ?_ | refine brF ?_)); conv => whnf)
      refine round_end (j + 1) ⟨hlt, by rw [unionsTo_succ hlt, huok, j2]; rfl⟩ (by omega) ⟨?_, ⟨rfl, trivial⟩, rfl, rfl⟩
      ((repeat ((conv => whnf); first | refine ⟨e, ?_⟩ | refine ⟨rfl, ?_⟩)); trivial)
  have hjl : j = us.length := by rw [ltI_f] at j1; simp at j1; omega
  subst hjl
  ((repeat ((conv => whnf); first | refine brT ?_ | refine brF ?_)); conv => whnf)
  refine fin ?_
  rw [hfam, hok, huok, hsh]
  rfl
end Go.Proofs.Ytgkjafmmekjjlaa


namespace Go.Proofs.Ytgkjafmmekjjlaa
open Go.Lg
set_option maxHeartbeats 800000
set_option maxRecDepth 10000
set_option linter.unusedVariables false
set_option linter.unusedSimpArgs false

/-- The family is valid and has the person. -/
def hasP (ps : List Per) (us : List Uni) (p : Int) : Bool := leI 0 p && (ltI p (ps.length : Int) && famOk ps us)
theorem l1Has_spec (ps : List Per) (us : List Uni) (p : Int) : FSpec env.P 56 [famLV ps us, .int .i64 p] (.bool (hasP ps us p)) := by
  refine FSpec_of_code env_ok (fn := Try.f56) Try.func56 rfl Try.call56 _ _ ?_
  ((repeat ((conv => whnf); first | refine brT ?_ | refine brF ?_)); conv => whnf)
  (refine ⟨fun h1 => ?_, fun h1 => ?_⟩ <;> rw [h1])
  · ((repeat ((conv => whnf); first | refine brT ?_ | refine brF ?_)); conv => whnf)
    intro hn
    ((repeat' (((repeat ((conv => whnf); first | refine brT ?_ | refine brF ?_)); conv => whnf); first | (refine And.intro ?_ ?_ <;> (intro h; rw [h]; revert h; intro _)) | (refine Exists.intro true (And.intro (a := drawB _ _ = true) (by kernel_rfl) ?_)) | (refine Exists.intro _ (And.intro (isFamily_spec ps us) ?_)))); all_goals ((repeat ((conv => whnf); first | refine brT ?_ | refine brF ?_)); conv => whnf))
    all_goals (refine fin ?_; simp_all [hasP])
  · ((repeat ((conv => whnf); first | refine brT ?_ | refine brF ?_)); conv => whnf)
    refine fin ?_; simp [hasP, h1]
theorem hasPerson_spec (ps : List Per) (us : List Uni) (p : Int) : FSpec env.P 61 [famLV ps us, .int .i64 p] (.bool (hasP ps us p)) := by
  refine FSpec_of_code env_ok (fn := Try.f61) Try.func61 rfl Try.call61 _ _ ?_
  ((repeat ((conv => whnf); first | refine brT ?_ | refine brF ?_)); conv => whnf)
  (refine ⟨fun h1 => ?_, fun h1 => ?_⟩ <;> rw [h1])
  · ((repeat ((conv => whnf); first | refine brT ?_ | refine brF ?_)); conv => whnf)
    intro hn
    ((repeat' (((repeat ((conv => whnf); first | refine brT ?_ | refine brF ?_)); conv => whnf); first | (refine And.intro ?_ ?_ <;> (intro h; rw [h]; revert h; intro _)) | (refine Exists.intro true (And.intro (a := drawB _ _ = true) (by kernel_rfl) ?_)) | (refine Exists.intro _ (And.intro (isFamily_impl ps us) ?_)))); all_goals ((repeat ((conv => whnf); first | refine brT ?_ | refine brF ?_)); conv => whnf))
    all_goals (refine fin ?_; simp_all [hasP])
  · ((repeat ((conv => whnf); first | refine brT ?_ | refine brF ?_)); conv => whnf)
    refine fin ?_; simp [hasP, h1]
theorem hasP_lt {ps : List Per} {us : List Uni} {p : Int} (h : hasP ps us p = true) : 0 ≤ p ∧ p.toNat < ps.length ∧ famOk ps us = true := by
  unfold hasP at h
  simp only [Bool.and_eq_true, leI_t, ltI_t] at h
  exact ⟨h.1, by omega, h.2.2⟩
theorem famOk_parts {ps : List Per} {us : List Uni} (h : famOk ps us = true) : ps.length ≤ 40 ∧ us.length ≤ 60 ∧ personsTo ps ps.length = true ∧ unionsTo ps us us.length = true ∧ shallow (depths ps) = true := by
  unfold famOk at h
  simpa only [Bool.and_eq_true, decide_eq_true_eq] using h

def cmpI (a b : Int) : Int := match ltI a b with | true => -1 | false => match ltI b a with | true => 1 | false => 0
theorem isNaN_spec (a : Int) : FSpec env.P 155 [.int .i64 a] (.bool false) := by
  refine FSpec_of_code env_ok (fn := Try.f155) Try.func155 rfl Try.call155 _ _ ?_
  ((repeat ((conv => whnf); first | refine brT ?_ | refine brF ?_)); conv => whnf)
  exact fin (by simp [notB, eqI_refl])
theorem compare_spec (a b : Int) : FSpec env.P 129 [.int .i64 a, .int .i64 b] (.int .i64 (cmpI a b)) := by
  refine FSpec_of_code env_ok (fn := Try.f129) Try.func129 rfl Try.call129 _ _ ?_
  ((repeat' (((repeat ((conv => whnf); first | refine brT ?_ | refine brF ?_)); conv => whnf); first | (refine And.intro ?_ ?_ <;> (intro h; rw [h]; revert h; intro _)) | (refine Exists.intro true (And.intro (a := drawB _ _ = true) (by kernel_rfl) ?_)) | (refine Exists.intro _ (And.intro (isNaN_spec _) ?_)))); all_goals ((repeat ((conv => whnf); first | refine brT ?_ | refine brF ?_)); conv => whnf))
  all_goals
    refine ⟨rfl, ?_, List.nodup_nil⟩
    simp [cmpI, *]
def orI (a b : Int) : Int := match eqI a 0 with | true => b | false => a
end Go.Proofs.Ytgkjafmmekjjlaa

namespace Go.Proofs.Ytgkjafmmekjjlaa
open Go.Lg
set_option maxHeartbeats 1600000
set_option maxRecDepth 10000
set_option linter.unusedVariables false
set_option linter.unusedSimpArgs false

/-! A rule: its name, its sex and place, the steps that it replaces and by which. -/
structure Rul where
  name : ByteArray
  sex : Int
  place : Int
  fr : List Pr
  to : List Pr
def Rul.lv (r : Rul) : LV := .st [.str r.name, .int .i64 r.sex, .int .i64 r.place, .sl (r.fr.map Pr.lv), .sl (r.to.map Pr.lv)]
def Rul.own (r : Rul) (e : Nat) : LV := .st [.str r.name, .int .i64 r.sex, .int .i64 r.place, .own e 2 (r.fr.map Pr.lv), .own e 2 (r.to.map Pr.lv)]
def Rul.eq (r s : Rul) : Bool := eqS r.name s.name && (eqI r.sex s.sex && (eqI r.place s.place && (eqList Pr.eq r.fr s.fr && eqList Pr.eq r.to s.to)))
theorem Rul.eq_refl (r : Rul) : r.eq r = true := by simp [Rul.eq, eqS_refl, eqI_refl, eqPairS_refl]

/-! Comparisons of steps. -/
end Go.Proofs.Ytgkjafmmekjjlaa


namespace Go.Proofs.Ytgkjafmmekjjlaa
open Go.Lg
set_option maxHeartbeats 1600000
set_option maxRecDepth 10000
set_option linter.unusedVariables false
set_option linter.unusedSimpArgs false

theorem Weak.idn {n0 : Nat} {ts : List LV} {H : List Blk} (h1 : wk ts ts) (h2 : wkH n0 H H) (h3 : (scs (below H.length) ts && H.all (scB (below H.length))) = true) : Weak n0 ts H ts H := by
  simp only [Bool.and_eq_true] at h3
  exact .inl ⟨h1, h2, h3.1, h3.2⟩

end Go.Proofs.Ytgkjafmmekjjlaa

namespace Go.Proofs.Ytgkjafmmekjjlaa
open Go.Lg Go.Pm
set_option maxHeartbeats 6400000
set_option maxRecDepth 10000
set_option linter.unusedVariables false
set_option linter.unusedSimpArgs false

/-! ### Types as permutations -/
theorem idx {q : List Int} {y : Int} (e1 : 0 ≤ y) (e2 : y.toNat < q.length) : y = ((y.toNat : Nat) : Int) ∧ (q.map intLV)[y.toNat]? = some (intLV (q.getD y.toNat 0)) :=
  ⟨by omega, by rw [List.getElem?_map, List.getElem?_eq_getElem e2, getD_lt e2]; rfl⟩
end Go.Proofs.Ytgkjafmmekjjlaa


namespace Go.Proofs.Ytgkjafmmekjjlaa
open Go.Lg Go.Pm
set_option maxHeartbeats 3200000
set_option maxRecDepth 10000
set_option linter.unusedVariables false
set_option linter.unusedSimpArgs false

/-! ### Founders -/
end Go.Proofs.Ytgkjafmmekjjlaa

namespace Go.Proofs.Ytgkjafmmekjjlaa
open Go.Lg Go.Pm
set_option maxHeartbeats 3200000
set_option maxRecDepth 10000
set_option linter.unusedVariables false
set_option linter.unusedSimpArgs false

theorem hasP_in {ps : List Per} {us : List Uni} {p : Int} (h : hasP ps us p = true) : 0 ≤ p ∧ p.toNat < ps.length ∧ ps.length ≤ 40 ∧ parsIn ps := by
  obtain ⟨h0, h1, h2⟩ := hasP_lt h
  obtain ⟨k1, _, k2, _⟩ := famOk_parts h2
  exact ⟨h0, h1, k1, parsIn_of k2⟩
end Go.Proofs.Ytgkjafmmekjjlaa

namespace Go.Proofs.Ytgkjafmmekjjlaa
open Go.Lg
set_option maxHeartbeats 800000
set_option maxRecDepth 10000
set_option linter.unusedVariables false
set_option linter.unusedSimpArgs false

/-! UnionEnd -/
def endLV : Option Int → LV
  | some y => .tup [.int .i64 y, .bool true]
  | none => .tup [.int .i64 0, .bool false]
def endOf2 (a b : Int) : Option Int := match eqI a (-1) with
  | true => (match eqI b (-1) with | true => none | false => some b)
  | false => (match eqI b (-1) with | true => some a | false => some (minI a b))
def endO (ps : List Per) (u : Uni) : Option Int := match eqI u.till (-1) with
  | false => some u.till
  | true => match ps[u.husband.toNat]?, ps[u.wife.toNat]? with
    | some x, some y => endOf2 x.died y.died
    | _, _ => none

/-- The union's two persons are of the family. -/
structure UniIn (ps : List Per) (u : Uni) : Prop where
  m0 : 0 ≤ u.husband
  ml : u.husband.toNat < ps.length
  w0 : 0 ≤ u.wife
  wl : u.wife.toNat < ps.length
/-- Years are years. -/
structure UniYears (ps : List Per) (u : Uni) (h : UniIn ps u) : Prop where
  t : u.till = -1 ∨ 0 ≤ u.till
  m : (ps[u.husband.toNat]'h.ml).died = -1 ∨ 0 ≤ (ps[u.husband.toNat]'h.ml).died
  w : (ps[u.wife.toNat]'h.wl).died = -1 ∨ 0 ≤ (ps[u.wife.toNat]'h.wl).died

theorem uni_of {ps : List Per} {us : List Uni} (h : famOk ps us = true) {k : Nat} (hk : k < us.length) : ∃ h : UniIn ps us[k], UniYears ps us[k] h := by
  obtain ⟨_, _, hp, hu, _⟩ := famOk_parts h
  have hok : unionOk ps (us.take k) us[k] = true := by
    cases e : unionOk ps (us.take k) us[k] with
    | true => rfl
    | false => rw [unionsTo_no hk hk e] at hu; cases hu
  unfold unionOk at hok
  simp only [Bool.and_eq_true] at hok
  obtain ⟨⟨h1, h2⟩, ⟨h3, h4⟩, h5, h6⟩ := hok
  obtain ⟨m0, ml, _⟩ := ofSex_lt h1
  obtain ⟨w0, wl, _⟩ := ofSex_lt h2
  refine ⟨⟨m0, ml, w0, wl⟩, ?_⟩
  have pm := personOk_spec (personsTo_get hp ml ml)
  have pw := personOk_spec (personsTo_get hp wl wl)
  unfold bothFit at h6
  rw [List.getElem?_eq_getElem ml, List.getElem?_eq_getElem wl] at h6
  simp only [fits, Bool.and_eq_true, leI_t] at h6
  unfold endYear at h4
  simp only [Bool.or_eq_true, Bool.and_eq_true, eqI_t, leI_t] at h4
  refine ⟨?_, ?_, ?_⟩
  · omega
  · omega
  · omega

theorem endOf2_years {a b : Int} (ha : a = -1 ∨ 0 ≤ a) (hb : b = -1 ∨ 0 ≤ b) : endOf2 a b = (if a < 0 ∧ b < 0 then none else some (if a < 0 ∨ (0 ≤ b ∧ b < a) then b else a)) := by
  unfold endOf2 minI
  grind [eqI_t, eqI_f]

end Go.Proofs.Ytgkjafmmekjjlaa

namespace Go.Proofs.Ytgkjafmmekjjlaa
open Go.Lg Go.Pm
set_option maxHeartbeats 3200000
set_option maxRecDepth 10000
set_option linter.unusedVariables false
set_option linter.unusedSimpArgs false

/-! ### Exogamy -/
end Go.Proofs.Ytgkjafmmekjjlaa

namespace Go.Proofs.Ytgkjafmmekjjlaa
open Go.Lg Go.Pm
set_option maxHeartbeats 6400000
set_option maxRecDepth 10000
set_option linter.unusedVariables false
set_option linter.unusedSimpArgs false

/-! ### Classes that are given -/
def inCl (lo : Int) (n : Nat) (x : Int) : Bool := leI lo x && ltI x (n : Int)
def givB (ps : List Per) (us : List Uni) (w c g : List Int) (lo : Int) : Bool := famOk ps us && (clsB w c && (eqI (g.length : Int) (ps.length : Int) && g.all (inCl lo w.length)))
theorem given1_spec (w c : List Int) (lo x : Int) : FSpec env.P 122 [.int .i64 x, .ref (.int .i64 lo), .ref (clsLV w c)] (.bool (notB (inCl lo w.length x))) := by
  refine FSpec_of_code env_ok (fn := Try.f122) Try.func122 rfl Try.call122 _ _ ?_
  have hW : (w.map intLV).length = w.length := List.length_map ..
  ((repeat ((conv => whnf); first | refine brT ?_ | refine brF ?_)); conv => whnf)
  (refine ⟨fun h1 => ?_, fun h1 => ?_⟩ <;> rw [h1])
  · ((repeat ((conv => whnf); first | refine brT ?_ | refine brF ?_)); conv => whnf)
    refine fin ?_
    rw [ltI_t] at h1
    rw [show inCl lo w.length x = false by unfold inCl; rw [show leI lo x = false by rw [leI_f]; omega]; rfl]
    simp [notB]
  · ((repeat ((conv => whnf); first | refine brT ?_ | refine brF ?_)); conv => whnf)
    intro _
    rw [hW]
    ((repeat ((conv => whnf); first | refine brT ?_ | refine brF ?_)); conv => whnf)
    refine fin ?_
    rw [ltI_f] at h1
    unfold inCl
    rw [show leI lo x = true by rw [leI_t]; omega, Bool.true_and]
    cases h : ltI x (w.length : Int)
    · rw [ltI_f] at h
      rw [show leI (w.length : Int) x = true by rw [leI_t]; omega]; simp [notB]
    · rw [ltI_t] at h
      rw [show leI (w.length : Int) x = false by rw [leI_f]; omega]; simp [notB]
theorem indexGiv (F : Nat) (y z : LV) (q : Int → Bool) (xs : List Int) (hF : ∀ x, FSpec env.P F [.int .i64 x, .ref y, .ref z] (.bool (q x))) :
    FSpec env.P 146 [rowSl xs, .clos F [.ref y, .ref z]] (.int .i64 (idxFrom q 0 xs)) := by
  refine FSpec_of_code env_ok (fn := Try.f146) Try.func146 rfl Try.call146 _ _ ?_
  ((repeat ((conv => whnf); first | refine brT ?_ | refine brF ?_)); conv => whnf)
  intro hp
  have hp' : xs.length ≤ Go.maxLen := by simpa using hp
  ((repeat ((conv => whnf); first | refine brT ?_ | refine brF ?_)); conv => whnf)
  refine loop_rule (α := Nat) (fun k => [(8, .int .i64 (k : Int))]) (fun k => []) (fun k => xs.length - k) (fun k => k ≤ xs.length ∧ idxFrom q k (xs.drop k) = idxFrom q 0 xs) 0 ⟨Nat.zero_le _, rfl⟩ ?_ ?_
  · refine ⟨?_, trivial, rfl, rfl⟩
    ((repeat ((conv => whnf); refine ⟨rfl, ?_⟩)); trivial)
  rintro k ⟨hk, hf⟩
  ((repeat ((conv => whnf); first | refine brT ?_ | refine brF ?_)); conv => whnf)
  (refine ⟨fun h1 => ?_, fun h1 => ?_⟩ <;> rw [h1])
  · have hlt : k < xs.length := by rw [ltI_t] at h1; simp at h1; omega
    rw [List.drop_eq_getElem_cons hlt] at hf
    simp only [idxFrom] at hf
    ((repeat ((conv => whnf); first | refine brT ?_ | refine brF ?_)); conv => whnf)
    refine ⟨k, intLV xs[k], rfl, by simp [hlt], rfl, ?_⟩
    ((repeat ((conv => whnf); first | refine brT ?_ | refine brF ?_)); conv => whnf)
    refine ⟨_, hF xs[k], ?_⟩
    ((repeat ((conv => whnf); first | refine brT ?_ | refine brF ?_)); conv => whnf)
    (refine ⟨fun h2 => ?_, fun h2 => ?_⟩ <;> rw [h2])
    · rw [h2] at hf
      ((repeat ((conv => whnf); first | refine brT ?_ | refine brF ?_)); conv => whnf)
      exact ⟨rfl, by rw [← hf], List.nodup_nil⟩
    · rw [h2] at hf
      ((repeat ((conv => whnf); first | refine brT ?_ | refine brF ?_)); conv => whnf)
      refine round_end (k + 1) ⟨hlt, hf⟩ (by omega) ⟨?_, trivial, rfl, rfl⟩
      have e := step_i hlt hp'
      ((repeat ((conv => whnf); first | refine ⟨e, ?_⟩ | refine ⟨rfl, ?_⟩)); trivial)
  · have h3 : xs.length ≤ k := by rw [ltI_f] at h1; simp at h1; omega
    rw [List.drop_eq_nil_of_le h3] at hf
    ((repeat ((conv => whnf); first | refine brT ?_ | refine brF ?_)); conv => whnf)
    exact ⟨rfl, by rw [← hf]; rfl, List.nodup_nil⟩
theorem containsGiv (F : Nat) (y z : LV) (q : Int → Bool) (xs : List Int) (hF : ∀ x, FSpec env.P F [.int .i64 x, .ref y, .ref z] (.bool (q x))) :
    FSpec env.P 121 [rowSl xs, .clos F [.ref y, .ref z]] (.bool (xs.any q)) := by
  refine FSpec_of_code env_ok (fn := Try.f121) Try.func121 rfl Try.call121 _ _ ?_
  ((repeat ((conv => whnf); first | refine brT ?_ | refine brF ?_)); conv => whnf)
  refine ⟨_, indexGiv F y z q xs hF, ?_⟩
  ((repeat ((conv => whnf); first | refine brT ?_ | refine brF ?_)); conv => whnf)
  exact fin (idxFrom_ge _ _ _)
theorem any_notB {α : Type} (q : α → Bool) : ∀ xs : List α, notB (xs.any fun x => notB (q x)) = xs.all q
  | [] => by simp [notB]
  | x :: xs => by
    rw [List.any_cons, List.all_cons, ← any_notB q xs]
    cases q x <;> simp [notB]
theorem giv_impl (ps : List Per) (us : List Uni) (w c g : List Int) (lo : Int) (h1 : w.length ≤ 1048576) (h2 : c.length ≤ 1048576) :
    FSpec env.P 78 [.int .i64 lo, famLV ps us, clsLV w c, rowSl g] (.bool (givB ps us w c g lo)) := by
  refine FSpec_of_code env_ok (fn := Try.f78) Try.func78 rfl Try.call78 _ _ ?_
  have hP : (ps.map Per.lv).length = ps.length := List.length_map ..
  have hG : (g.map intLV).length = g.length := List.length_map ..
  ((repeat ((conv => whnf); first | refine brT ?_ | refine brF ?_)); conv => whnf)
  intro _
  ((repeat ((conv => whnf); first | refine brT ?_ | refine brF ?_)); conv => whnf)
  intro _
  ((repeat ((conv => whnf); first | refine brT ?_ | refine brF ?_)); conv => whnf)
  rw [hG, hP]
  cases e3 : eqI (g.length : Int) (ps.length : Int)
  · rw [show notB false = true by simp [notB]]
    ((repeat ((conv => whnf); first | refine brT ?_ | refine brF ?_)); conv => whnf)
    refine fin ?_; simp [givB, e3]
  rw [show notB true = false by simp [notB]]
  ((repeat ((conv => whnf); first | refine brT ?_ | refine brF ?_)); conv => whnf)
  refine ⟨_, isFamily_impl ps us, ?_⟩
  ((repeat ((conv => whnf); first | refine brT ?_ | refine brF ?_)); conv => whnf)
  cases e1 : famOk ps us
  · rw [show notB false = true by simp [notB]]
    ((repeat ((conv => whnf); first | refine brT ?_ | refine brF ?_)); conv => whnf)
    refine fin ?_; simp [givB, e1]
  rw [show notB true = false by simp [notB]]
  ((repeat ((conv => whnf); first | refine brT ?_ | refine brF ?_)); conv => whnf)
  refine ⟨_, isClasses_impl w c h1 h2, ?_⟩
  ((repeat ((conv => whnf); first | refine brT ?_ | refine brF ?_)); conv => whnf)
  cases e2 : clsB w c
  · rw [show notB false = true by simp [notB]]
    ((repeat ((conv => whnf); first | refine brT ?_ | refine brF ?_)); conv => whnf)
    refine fin ?_; simp [givB, e2]
  rw [show notB true = false by simp [notB]]
  ((repeat ((conv => whnf); first | refine brT ?_ | refine brF ?_)); conv => whnf)
  refine ⟨_, containsGiv _ _ _ (fun x => notB (inCl lo w.length x)) g fun x => given1_spec w c lo x, ?_⟩
  ((repeat ((conv => whnf); first | refine brT ?_ | refine brF ?_)); conv => whnf)
  refine fin ?_
  rw [any_notB]; simp [givB, e1, e2, e3]
theorem giv_spec (ps : List Per) (us : List Uni) (w c g : List Int) (lo : Int) (h1 : w.length ≤ 1048576) (h2 : c.length ≤ 1048576) :
    FSpec env.P 77 [famLV ps us, clsLV w c, rowSl g, .int .i64 lo] (.bool (givB ps us w c g lo)) := by
  refine FSpec_of_code env_ok (fn := Try.f77) Try.func77 rfl Try.call77 _ _ ?_
  have hP : (ps.map Per.lv).length = ps.length := List.length_map ..
  have hG : (g.map intLV).length = g.length := List.length_map ..
  have hW : (w.map intLV).length = w.length := List.length_map ..
  ((repeat ((conv => whnf); first | refine brT ?_ | refine brF ?_)); conv => whnf)
  refine ⟨_, isFamily_spec ps us, ?_⟩
  ((repeat ((conv => whnf); first | refine brT ?_ | refine brF ?_)); conv => whnf)
  cases e1 : famOk ps us
  · rw [show notB false = true by simp [notB]]
    ((repeat ((conv => whnf); first | refine brT ?_ | refine brF ?_)); conv => whnf)
    refine fin ?_; simp [givB, e1]
  rw [show notB true = false by simp [notB]]
  ((repeat ((conv => whnf); first | refine brT ?_ | refine brF ?_)); conv => whnf)
  refine ⟨_, isClasses_spec w c h1 h2, ?_⟩
  ((repeat ((conv => whnf); first | refine brT ?_ | refine brF ?_)); conv => whnf)
  cases e2 : clsB w c
  · rw [show notB false = true by simp [notB]]
    ((repeat ((conv => whnf); first | refine brT ?_ | refine brF ?_)); conv => whnf)
    refine fin ?_; simp [givB, e2]
  rw [show notB true = false by simp [notB]]
  ((repeat ((conv => whnf); first | refine brT ?_ | refine brF ?_)); conv => whnf)
  intro hgm
  ((repeat ((conv => whnf); first | refine brT ?_ | refine brF ?_)); conv => whnf)
  intro _
  ((repeat ((conv => whnf); first | refine brT ?_ | refine brF ?_)); conv => whnf)
  rw [hG, hP]
  cases e3 : eqI (g.length : Int) (ps.length : Int)
  · rw [show notB false = true by simp [notB]]
    ((repeat ((conv => whnf); first | refine brT ?_ | refine brF ?_)); conv => whnf)
    refine fin ?_; simp [givB, e3]
  rw [show notB true = false by simp [notB]]
  have hg' : g.length ≤ Go.maxLen := by rw [← hG]; exact hgm
  obtain ⟨n1, n8, _, _, _⟩ := clsB_at e2
  ((repeat ((conv => whnf); first | refine brT ?_ | refine brF ?_)); conv => whnf)
  intro _
  ((repeat ((conv => whnf); first | refine brT ?_ | refine brF ?_)); conv => whnf)
  refine loop_rule (α := Nat) (fun k => [(29, .int .i64 (k : Int))]) (fun k => [.box (famLV ps us), .box (clsLV w c)]) (fun k => g.length - k) (fun k => k ≤ g.length ∧ (g.drop k).all (inCl lo w.length) = g.all (inCl lo w.length)) 0 ⟨Nat.zero_le _, rfl⟩ ?_ ?_
  · refine ⟨?_, ⟨rfl, rfl, trivial⟩, rfl, rfl⟩
    ((repeat ((conv => whnf); refine ⟨rfl, ?_⟩)); trivial)
  rintro k ⟨hk, hf⟩
  ((repeat ((conv => whnf); first | refine brT ?_ | refine brF ?_)); conv => whnf)
  (refine ⟨fun g1 => ?_, fun g1 => ?_⟩ <;> rw [g1])
  · have hlt : k < g.length := by rw [ltI_t] at g1; simp at g1; omega
    rw [List.drop_eq_getElem_cons hlt, List.all_cons] at hf
    have e := step_i hlt hg'
    have ew : IntKind.i64.wrap ((w.length : Int) - 1) = (w.length : Int) - 1 := wrap64 (by omega) (by omega)
    have ei : inCl lo w.length g[k] = (leI lo g[k] && leI g[k] ((w.length : Int) - 1)) := by
      unfold inCl
      congr 1
      cases h : ltI g[k] (w.length : Int)
      · rw [ltI_f] at h; symm; rw [leI_f]; omega
      · rw [ltI_t] at h; symm; rw [leI_t]; omega
    ((repeat ((conv => whnf); first | refine brT ?_ | refine brF ?_)); conv => whnf)
    refine ⟨k, intLV g[k], rfl, by simp [hlt], rfl, ?_⟩
    ((repeat ((conv => whnf); first | refine brT ?_ | refine brF ?_)); conv => whnf)
    intro _
    ((repeat ((conv => whnf); first | refine brT ?_ | refine brF ?_)); conv => whnf)
    rw [hW, ew]
    refine ⟨_, l1In_spec g[k] lo ((w.length : Int) - 1), ?_⟩
    rw [← ei]
    ((repeat ((conv => whnf); first | refine brT ?_ | refine brF ?_)); conv => whnf)
    cases e4 : inCl lo w.length g[k]
    · rw [show notB false = true by simp [notB]]
      rw [e4, Bool.false_and] at hf
      ((repeat ((conv => whnf); first | refine brT ?_ | refine brF ?_)); conv => whnf)
      refine fin ?_; simp [givB, ← hf]
    · rw [show notB true = false by simp [notB]]
      rw [e4, Bool.true_and] at hf
      ((repeat ((conv => whnf); first | refine brT ?_ | refine brF ?_)); conv => whnf)
      refine round_end (k + 1) ⟨hlt, hf⟩ (by omega) ⟨?_, ⟨rfl, rfl, trivial⟩, rfl, rfl⟩
      ((repeat ((conv => whnf); first | refine ⟨e, ?_⟩ | refine ⟨rfl, ?_⟩)); trivial)
  · have h3 : g.length ≤ k := by rw [ltI_f] at g1; simp at g1; omega
    rw [List.drop_eq_nil_of_le h3] at hf
    ((repeat ((conv => whnf); first | refine brT ?_ | refine brF ?_)); conv => whnf)
    refine fin ?_; simp [givB, e1, e2, e3, ← hf]
end Go.Proofs.Ytgkjafmmekjjlaa


namespace Go.Proofs.Ytgkjafmmekjjlaa
open Go.Lg
set_option maxHeartbeats 3200000
set_option maxRecDepth 10000
set_option linter.unusedVariables false
set_option linter.unusedSimpArgs false

/-! ### Laws of marriage -/
structure Lw where
  degree : Int
  canon : Int
  affinity : Int
  age : Int
  wives : Int
  husbands : Int
  patri : Bool
  matri : Bool
def Lw.lv (l : Lw) : LV := .st [.int .i64 l.degree, .int .i64 l.canon, .int .i64 l.affinity, .int .i64 l.age, .int .i64 l.wives, .int .i64 l.husbands, .bool l.patri, .bool l.matri]
/-- A setting: a number between two others, or a choice. -/
inductive Sg where
  | num (v lo hi : Int)
  | cho (b : Bool)
def Sg.lv : Sg → LV
  | .num v lo hi => .ifc 137 [.ref (.int .i64 v), .int .i64 lo, .int .i64 hi]
  | .cho b => .ifc 140 [.ref (.bool b)]
def Sg.ok : Sg → Bool
  | .num v lo hi => leI lo v && leI v hi
  | .cho _ => true
def clLV (c : ByteArray × Sg) : LV := .st [.str c.1, c.2.lv]
def lawCl (l : Lw) : List (ByteArray × Sg) :=
  [(⟨#[100, 101, 103, 114, 101, 101]⟩, .num l.degree 0 20), (⟨#[99, 97, 110, 111, 110]⟩, .num l.canon 0 10), (⟨#[97, 102, 102, 105, 110, 105, 116, 121]⟩, .num l.affinity 0 20), (⟨#[97, 103, 101]⟩, .num l.age 0 99),
   (⟨#[119, 105, 118, 101, 115]⟩, .num l.wives 1 9), (⟨#[104, 117, 115, 98, 97, 110, 100, 115]⟩, .num l.husbands 1 9), (⟨#[112, 97, 116, 114, 105, 108, 105, 110, 101]⟩, .cho l.patri), (⟨#[109, 97, 116, 114, 105, 108, 105, 110, 101]⟩, .cho l.matri)]
theorem numOk_spec (v lo hi : Int) : FSpec env.P 210 [.st [.ref (.int .i64 v), .int .i64 lo, .int .i64 hi]] (.bool (leI lo v && leI v hi)) := by
  refine FSpec_of_code env_ok (fn := Try.f210) Try.func210 rfl Try.call210 _ _ ?_
  ((repeat ((conv => whnf); first | refine brT ?_ | refine brF ?_)); conv => whnf)
  refine ⟨true, by kernel_rfl, ?_⟩
  ((repeat ((conv => whnf); first | refine brT ?_ | refine brF ?_)); conv => whnf)
  (refine ⟨fun h => ?_, fun h => ?_⟩ <;> rw [h])
  · ((repeat ((conv => whnf); first | refine brT ?_ | refine brF ?_)); conv => whnf)
    exact ⟨by rfl, List.nodup_nil⟩
  · ((repeat ((conv => whnf); first | refine brT ?_ | refine brF ?_)); conv => whnf)
    exact ⟨by rfl, List.nodup_nil⟩
theorem choOk_spec (b : Bool) : FSpec env.P 213 [.st [.ref (.bool b)]] (.bool true) := by
  refine FSpec_of_code env_ok (fn := Try.f213) Try.func213 rfl Try.call213 _ _ ?_
  ((repeat ((conv => whnf); first | refine brT ?_ | refine brF ?_)); conv => whnf)
  exact fin rfl
theorem isLaw1_spec (c : ByteArray × Sg) : FSpec env.P 75 [clLV c] (.bool (notB c.2.ok)) := by
  refine FSpec_of_code env_ok (fn := Try.f75) Try.func75 rfl Try.call75 _ _ ?_
  obtain ⟨s, g⟩ := c
  cases g with
  | num v lo hi =>
    ((repeat ((conv => whnf); first | refine brT ?_ | refine brF ?_)); conv => whnf)
    refine ⟨0, _, rfl, _, numOk_spec v lo hi, ?_⟩
    ((repeat ((conv => whnf); first | refine brT ?_ | refine brF ?_)); conv => whnf)
    exact fin rfl
  | cho b =>
    ((repeat ((conv => whnf); first | refine brT ?_ | refine brF ?_)); conv => whnf)
    refine ⟨1, _, rfl, _, choOk_spec b, ?_⟩
    ((repeat ((conv => whnf); first | refine brT ?_ | refine brF ?_)); conv => whnf)
    exact fin rfl
theorem clausesOf_spec (l : Lw) : FSpec env.P 74 [.ref l.lv] (.own 99 2 ((lawCl l).map clLV)) := by
  obtain ⟨d, c, a, g, w, h, p, m⟩ := l
  show FSpec env.P 74 [.ref (.st [.int .i64 d, .int .i64 c, .int .i64 a, .int .i64 g, .int .i64 w, .int .i64 h, .bool p, .bool m])] _
  refine FSpec_of_code env_ok (fn := Try.f74) Try.func74 rfl Try.call74 _ _ ?_
  ((repeat ((conv => whnf); first | refine brT ?_ | refine brF ?_)); conv => whnf)
  refine ⟨false, 48, by kernel_rfl, ?_⟩
  ((repeat ((conv => whnf); first | refine brT ?_ | refine brF ?_)); conv => whnf)
  exact ⟨rfl, rfl, rfl, rfl, by simp⟩
end Go.Proofs.Ytgkjafmmekjjlaa


namespace Go.Proofs.Ytgkjafmmekjjlaa
open Go.Lg
set_option maxHeartbeats 3200000
set_option maxRecDepth 10000
set_option linter.unusedVariables false
set_option linter.unusedSimpArgs false

theorem indexCl (F : Nat) (q : ByteArray × Sg → Bool) (xs : List (ByteArray × Sg)) (hF : ∀ x, FSpec env.P F [clLV x] (.bool (q x))) :
    FSpec env.P 118 [.sl (xs.map clLV), .clos F []] (.int .i64 (idxFrom q 0 xs)) := by
  refine FSpec_of_code env_ok (fn := Try.f118) Try.func118 rfl Try.call118 _ _ ?_
  ((repeat ((conv => whnf); first | refine brT ?_ | refine brF ?_)); conv => whnf)
  intro hp
  have hp' : xs.length ≤ Go.maxLen := by simpa using hp
  ((repeat ((conv => whnf); first | refine brT ?_ | refine brF ?_)); conv => whnf)
  refine loop_rule (α := Nat) (fun k => [(8, .int .i64 (k : Int))]) (fun k => []) (fun k => xs.length - k) (fun k => k ≤ xs.length ∧ idxFrom q k (xs.drop k) = idxFrom q 0 xs) 0 ⟨Nat.zero_le _, by simp⟩ ?_ ?_
  · refine ⟨?_, trivial, rfl, rfl⟩
    ((repeat ((conv => whnf); refine ⟨rfl, ?_⟩)); trivial)
  rintro k ⟨hk, hf⟩
  ((repeat ((conv => whnf); first | refine brT ?_ | refine brF ?_)); conv => whnf)
  (refine ⟨fun h1 => ?_, fun h1 => ?_⟩ <;> rw [h1])
  · have hlt : k < xs.length := by rw [ltI_t] at h1; simp at h1; omega
    rw [List.drop_eq_getElem_cons hlt] at hf
    simp only [idxFrom] at hf
    have hg : (xs.map clLV)[k]? = some (clLV xs[k]) := by simp [hlt]
    generalize xs[k] = x at hf hg
    have hx := hF x
    have e := step_i hlt hp'
    obtain ⟨s, g⟩ := x
    cases g
    all_goals
      ((repeat ((conv => whnf); first | refine brT ?_ | refine brF ?_)); conv => whnf)
      refine ⟨k, _, rfl, hg, rfl, ?_⟩
      ((repeat ((conv => whnf); first | refine brT ?_ | refine brF ?_)); conv => whnf)
      refine ⟨_, hx, ?_⟩
      ((repeat ((conv => whnf); first | refine brT ?_ | refine brF ?_)); conv => whnf)
      (refine ⟨fun h2 => ?_, fun h2 => ?_⟩ <;> rw [h2])
      · rw [h2] at hf
        ((repeat ((conv => whnf); first | refine brT ?_ | refine brF ?_)); conv => whnf)
        exact ⟨rfl, by rw [← hf], List.nodup_nil⟩
      · rw [h2] at hf
        ((repeat ((conv => whnf); first | refine brT ?_ | refine brF ?_)); conv => whnf)
        refine round_end (k + 1) ⟨hlt, hf⟩ (by omega) ⟨?_, trivial, rfl, rfl⟩
        ((repeat ((conv => whnf); first | refine ⟨e, ?_⟩ | refine ⟨rfl, ?_⟩)); trivial)
  · have h3 : xs.length ≤ k := by rw [ltI_f] at h1; simp at h1; omega
    rw [List.drop_eq_nil_of_le h3] at hf
    ((repeat ((conv => whnf); first | refine brT ?_ | refine brF ?_)); conv => whnf)
    exact ⟨rfl, by rw [← hf]; rfl, List.nodup_nil⟩
theorem containsCl (F : Nat) (q : ByteArray × Sg → Bool) (xs : List (ByteArray × Sg)) (hF : ∀ x, FSpec env.P F [clLV x] (.bool (q x))) :
    FSpec env.P 73 [.sl (xs.map clLV), .clos F []] (.bool (xs.any q)) := by
  refine FSpec_of_code env_ok (fn := Try.f73) Try.func73 rfl Try.call73 _ _ ?_
  ((repeat ((conv => whnf); first | refine brT ?_ | refine brF ?_)); conv => whnf)
  refine ⟨_, indexCl F q xs hF, ?_⟩
  ((repeat ((conv => whnf); first | refine brT ?_ | refine brF ?_)); conv => whnf)
  exact fin (idxFrom_ge _ _ _)
def inB (x lo hi : Int) : Bool := leI lo x && leI x hi
def lawOk (l : Lw) : Bool := inB l.degree 0 20 && (inB l.canon 0 10 && (inB l.affinity 0 20 && (inB l.age 0 99 && (inB l.wives 1 9 && inB l.husbands 1 9))))
theorem lawCl_ok (l : Lw) : (lawCl l).all (fun c => c.2.ok) = lawOk l := by
  simp [lawCl, Sg.ok, lawOk, inB]
theorem isLaw_impl (l : Lw) : FSpec env.P 29 [l.lv] (.bool (lawOk l)) := by
  have hc := clausesOf_spec l
  have hk := containsCl 75 (fun c => notB c.2.ok) (lawCl l) isLaw1_spec
  rw [← lawCl_ok, ← any_notB]
  generalize (lawCl l).any (fun c => notB c.2.ok) = b at hk ⊢
  generalize (lawCl l).map clLV = L at hc hk
  obtain ⟨d, c, a, g, w, h, p, m⟩ := l
  refine FSpec_of_code (E := { env with fb := [46] }) (env_ok.fbs _) (fn := Try.f29) Try.func29 rfl Try.call29 _ _ ?_
  ((repeat ((conv => whnf); first | refine brT ?_ | refine brF ?_)); conv => whnf)
  refine ⟨_, hc, ?_⟩
  ((repeat ((conv => whnf); first | refine brT ?_ | refine brF ?_)); conv => whnf)
  refine ⟨_, hk, ?_⟩
  ((repeat ((conv => whnf); first | refine brT ?_ | refine brF ?_)); conv => whnf)
  exact fin rfl
theorem isLaw_spec (l : Lw) : FSpec env.P 27 [l.lv] (.bool (lawOk l)) := by
  obtain ⟨d, c, a, g, w, h, p, m⟩ := l
  refine FSpec_of_code env_ok (fn := Try.f27) Try.func27 rfl Try.call27 _ _ ?_
  ((repeat' (((repeat ((conv => whnf); first | refine brT ?_ | refine brF ?_)); conv => whnf); first | (refine And.intro ?_ ?_ <;> (intro h; rw [h]; revert h; intro _)) | (refine Exists.intro true (And.intro (a := drawB _ _ = true) (by kernel_rfl) ?_)) | (refine Exists.intro _ (And.intro (l1In_spec _ _ _) ?_)))); all_goals ((repeat ((conv => whnf); first | refine brT ?_ | refine brF ?_)); conv => whnf))
  all_goals (refine fin ?_; simp_all [lawOk, inB])
theorem toLaw_spec (l : Lw) : FSpec env.P 28 [l.lv] l.lv := by
  obtain ⟨d, c, a, g, w, h, p, m⟩ := l
  refine FSpec_of_code env_ok (fn := Try.f28) Try.func28 rfl Try.call28 _ _ ?_
  ((repeat ((conv => whnf); first | refine brT ?_ | refine brF ?_)); conv => whnf)
  refine ⟨_, rfl, rfl, ?_⟩
  simp [Lw.lv, exW, exsW]
end Go.Proofs.Ytgkjafmmekjjlaa


namespace Go.Proofs.Ytgkjafmmekjjlaa
open Go.Lg
set_option maxHeartbeats 3200000
set_option maxRecDepth 10000
set_option linter.unusedVariables false
set_option linter.unusedSimpArgs false

abbrev shLaw : Sh := .st [.int .i64, .int .i64, .int .i64, .int .i64, .int .i64, .int .i64, .bool, .bool]
theorem law_of_sh {x : LV} (h : hasSh shLaw x) : ∃ l : Lw, x = l.lv ∧ True := by
  simp only [hasSh] at h
  obtain ⟨xs, rfl, h⟩ := h
  match xs, h with
  | [a, b, c, d, e, f, g, i], h =>
    simp only [hasShs, hasSh] at h
    obtain ⟨⟨a, rfl⟩, ⟨b, rfl⟩, ⟨c, rfl⟩, ⟨d, rfl⟩, ⟨e, rfl⟩, ⟨f, rfl⟩, ⟨g, rfl⟩, ⟨i, rfl⟩, _⟩ := h
    exact ⟨⟨a, b, c, d, e, f, g, i⟩, rfl, trivial⟩
  | [], h => simp [hasShs] at h
  | [_], h => simp [hasShs] at h
  | [_, _], h => simp [hasShs] at h
  | [_, _, _], h => simp [hasShs] at h
  | [_, _, _, _], h => simp [hasShs] at h
  | [_, _, _, _, _], h => simp [hasShs] at h
  | [_, _, _, _, _, _], h => simp [hasShs] at h
  | [_, _, _, _, _, _, _], h => simp [hasShs] at h
  | _ :: _ :: _ :: _ :: _ :: _ :: _ :: _ :: _ :: _, h => simp [hasShs] at h
theorem law_isLaw (l : Lw) : FSpec env.P 7 [l.lv] (.bool true) := by
  have h1 := toLaw_spec l
  have h2 := isLaw_spec l
  have h3 := isLaw_impl l
  generalize lawOk l = b at h2 h3
  obtain ⟨d, c, a, g, w, h, p, m⟩ := l
  refine FSpec_of_code env_ok (fn := Try.f7) Try.func7 rfl Try.call7 _ _ ?_
  ((repeat' (((repeat ((conv => whnf); first | refine brT ?_ | refine brF ?_)); conv => whnf); first | (refine And.intro ?_ ?_ <;> (intro h; rw [h]; revert h; intro _)) | (refine Exists.intro true (And.intro (a := drawB _ _ = true) (by kernel_rfl) ?_)) | (refine Exists.intro _ (And.intro (h1) ?_)) | (refine Exists.intro _ (And.intro (h2) ?_)) | (refine Exists.intro _ (And.intro (h3) ?_)))); all_goals ((repeat ((conv => whnf); first | refine brT ?_ | refine brF ?_)); conv => whnf))
  all_goals (refine fin ?_; simp_all [notB, eqB_refl])
def strB (a b : Lw) : Bool := lawOk a && (lawOk b && (leI b.degree a.degree && (leI b.canon a.canon && (leI b.affinity a.affinity && (leI b.age a.age && (leI a.wives b.wives && (leI a.husbands b.husbands &&
  ((a.patri || notB b.patri) && (a.matri || notB b.matri)))))))))
theorem leI_notlt (a b : Int) : leI b a = notB (ltI a b) := by
  unfold notB
  cases h : ltI a b with
  | true => rw [ltI_t] at h; show leI b a = false; rw [leI_f]; omega
  | false => rw [ltI_f] at h; show leI b a = true; rw [leI_t]; omega
theorem stricter_impl (a b : Lw) : FSpec env.P 31 [a.lv, b.lv] (.bool (strB a b)) := by
  have h2 := isLaw_impl a
  have h3 := isLaw_impl b
  unfold strB
  generalize lawOk a = x at h2 ⊢
  generalize lawOk b = y at h3 ⊢
  obtain ⟨d, c, a, g, w, h, p, m⟩ := a
  obtain ⟨d', c', a', g', w', h', p', m'⟩ := b
  refine FSpec_of_code env_ok (fn := Try.f31) Try.func31 rfl Try.call31 _ _ ?_
  ((repeat' (((repeat ((conv => whnf); first | refine brT ?_ | refine brF ?_)); conv => whnf); first | (refine And.intro ?_ ?_ <;> (intro h; rw [h]; revert h; intro _)) | (refine Exists.intro true (And.intro (a := drawB _ _ = true) (by kernel_rfl) ?_)) | (refine Exists.intro _ (And.intro (h2) ?_)) | (refine Exists.intro _ (And.intro (h3) ?_)))); all_goals ((repeat ((conv => whnf); first | refine brT ?_ | refine brF ?_)); conv => whnf))
  all_goals (refine fin ?_; simp_all [notB])
theorem stricter_spec (a b : Lw) : FSpec env.P 30 [a.lv, b.lv] (.bool (strB a b)) := by
  have h2 := isLaw_spec a
  have h3 := isLaw_spec b
  unfold strB
  rw [leI_notlt a.degree, leI_notlt a.canon, leI_notlt a.affinity, leI_notlt a.age]
  generalize lawOk a = x at h2 ⊢
  generalize lawOk b = y at h3 ⊢
  obtain ⟨d, c, a, g, w, h, p, m⟩ := a
  obtain ⟨d', c', a', g', w', h', p', m'⟩ := b
  refine FSpec_of_code env_ok (fn := Try.f30) Try.func30 rfl Try.call30 _ _ ?_
  ((repeat' (((repeat ((conv => whnf); first | refine brT ?_ | refine brF ?_)); conv => whnf); first | (refine And.intro ?_ ?_ <;> (intro h; rw [h]; revert h; intro _)) | (refine Exists.intro true (And.intro (a := drawB _ _ = true) (by kernel_rfl) ?_)) | (refine Exists.intro _ (And.intro (h2) ?_)) | (refine Exists.intro _ (And.intro (h3) ?_)))); all_goals ((repeat ((conv => whnf); first | refine brT ?_ | refine brF ?_)); conv => whnf))
  all_goals (refine fin ?_; simp_all [notB])
theorem law_isStricter (a b : Lw) : FSpec env.P 8 [a.lv, b.lv] (.bool true) := by
  have h1 := toLaw_spec a
  have h2 := toLaw_spec b
  have h3 := stricter_spec a b
  have h4 := stricter_impl a b
  generalize strB a b = x at h3 h4
  obtain ⟨d, c, a, g, w, h, p, m⟩ := a
  obtain ⟨d', c', a', g', w', h', p', m'⟩ := b
  refine FSpec_of_code env_ok (fn := Try.f8) Try.func8 rfl Try.call8 _ _ ?_
  ((repeat ((conv => whnf); first | refine brT ?_ | refine brF ?_)); conv => whnf)
  refine ⟨true, by kernel_rfl, ?_⟩
  ((repeat' (((repeat ((conv => whnf); first | refine brT ?_ | refine brF ?_)); conv => whnf); first | (refine And.intro ?_ ?_ <;> (intro h; rw [h]; revert h; intro _)) | (refine Exists.intro true (And.intro (a := drawB _ _ = true) (by kernel_rfl) ?_)) | (refine Exists.intro _ (And.intro (h1) ?_)) | (refine Exists.intro _ (And.intro (h2) ?_)) | (refine Exists.intro _ (And.intro (h3) ?_)) | (refine Exists.intro _ (And.intro (h4) ?_)))); all_goals ((repeat ((conv => whnf); first | refine brT ?_ | refine brF ?_)); conv => whnf))
  all_goals (refine fin ?_; simp_all [notB, eqB_refl])
end Go.Proofs.Ytgkjafmmekjjlaa


namespace Go.Proofs.Ytgkjafmmekjjlaa
open Go.Lg
set_option maxHeartbeats 1600000
set_option maxRecDepth 10000
set_option linter.unusedVariables false
set_option linter.unusedSimpArgs false

end Go.Proofs.Ytgkjafmmekjjlaa
