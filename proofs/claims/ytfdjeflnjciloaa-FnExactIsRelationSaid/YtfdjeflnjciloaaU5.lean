/- Contracts of functions of the program and of its model, told over readings. -/
import Derived.Test.YtfdjeflnjciloaaU4
namespace Go.Proofs.Ytfdjeflnjciloaa
open Go.Lg
set_option maxHeartbeats 400000
set_option maxRecDepth 10000
set_option linter.unusedVariables false
set_option linter.unusedSimpArgs false

def fits (u : Uni) (p : Per) : Bool := leI p.born u.since && livedTo p (maxI u.since u.till)
def bothFit (ps : List Per) (u : Uni) : Bool := match ps[u.husband.toNat]?, ps[u.wife.toNat]? with
  | some a, some b => fits u a && fits u b
  | _, _ => false
def unionOk (ps : List Per) (before : List Uni) (u : Uni) : Bool :=
  (ofSex ps u.husband 1 && ofSex ps u.wife 2) && ((leI u.since 9999 && endYear u.till u.since) && (notB (before.any (unitedOf u.husband u.wife)) && bothFit ps u))

theorem ofSex_lt {ps : List Per} {x sex : Int} (h : ofSex ps x sex = true) : ∃ (_ : 0 ≤ x) (h : x.toNat < ps.length), ps[x.toNat].sex = sex := by
  unfold ofSex at h
  simp only [Bool.and_eq_true, leI_t] at h
  obtain ⟨h0, h1⟩ := h
  split at h1
  · rename_i q hq
    obtain ⟨hl, rfl⟩ := List.getElem?_eq_some_iff.1 hq
    exact ⟨h0, hl, eqI_t.1 h1⟩
  · cases h1

/-- impl.isUnionAfter -/
theorem isUnionAfter_spec (ps : List Per) (us : List Uni) (u : Uni) : FSpec env.P 185 [.sl (us.map Uni.lv), u.lv, .sl (ps.map Per.lv)] (.bool (unionOk ps us u)) := by
  refine FSpec_of_code env_ok (fn := Try.f185) Try.func185 rfl Try.call185 _ _ ?_
  ((repeat' (((repeat ((conv => whnf); first | refine brT ?_ | refine brF ?_)); conv => whnf); first | (refine And.intro ?_ ?_ <;> (intro h; rw [h]; revert h; intro _)) | (refine And.intro (a := drawB _ _ = true) (by kernel_rfl) ?_) | (refine Exists.intro _ (And.intro (isOfSex_spec ps _ _) ?_)) | (refine Exists.intro _ (And.intro (isEndYear_spec _ _) ?_)) | (refine Exists.intro _ (And.intro (isUnited_spec us _ _) ?_)))); all_goals ((repeat ((conv => whnf); first | refine brT ?_ | refine brF ?_)); conv => whnf))
  all_goals first
    | (refine fin ?_; grind [unionOk, notB_t, notB_f, ltI_t, ltI_f, leI_t, leI_f])
    | skip
  rename_i s1 s2 s3 s4 s5
  rw [notB_f] at s1 s2 s4
  obtain ⟨m0, ml, _⟩ := ofSex_lt s1
  obtain ⟨w0, wl, _⟩ := ofSex_lt s2
  have hb : bothFit ps u = (fits u ps[u.husband.toNat] && fits u ps[u.wife.toNat]) := by simp [bothFit, ml, wl]
  have hu : unionOk ps us u = (fits u ps[u.husband.toNat] && fits u ps[u.wife.toNat]) := by
    have s3' : leI u.since 9999 = true := by rw [leI_t]; rw [ltI_f] at s3; exact s3
    unfold unionOk
    rw [hb, s1, s2, s3', s4, s5]
    simp [notB]
  refine ⟨u.husband.toNat, ps[u.husband.toNat].lv, by omega, by simp [ml], rfl, ?_⟩
  ((repeat ((conv => whnf); first | refine brT ?_ | refine brF ?_)); conv => whnf)
  refine ⟨u.wife.toNat, ps[u.wife.toNat].lv, by omega, by simp [wl], rfl, ?_⟩
  ((repeat ((conv => whnf); first | refine brT ?_ | refine brF ?_)); conv => whnf)
  refine ⟨rfl, fun _ => ?_⟩
  ((repeat ((conv => whnf); first | refine brT ?_ | refine brF ?_)); conv => whnf)
  generalize ps[u.husband.toNat] = a at hu ⊢
  generalize ps[u.wife.toNat] = b at hu ⊢
  refine loop_rule (α := Nat) (fun k => [(58, .int .i64 (k : Int))]) (fun k => [.box u.lv, .arr 87 6 [a.lv, b.lv]]) (fun k => 2 - k) (fun k => k ≤ 2 ∧ ∀ j (h : j < 2), j < k → fits u ([a, b][j]'h) = true) 0 ⟨Nat.zero_le _, fun j h k => by omega⟩ ?_ ?_
  · refine ⟨?_, ⟨rfl, rfl, trivial⟩, rfl, rfl⟩
    ((repeat ((conv => whnf); refine ⟨rfl, ?_⟩)); trivial)
  rintro k ⟨hk, hf⟩
  ((repeat ((conv => whnf); first | refine brT ?_ | refine brF ?_)); conv => whnf)
  (refine ⟨fun h1 => ?_, fun h1 => ?_⟩ <;> rw [h1])
  · have hlt : k < 2 := by rw [ltI_t] at h1; simp at h1; omega
    have e : LV.int .i64 (IntKind.i64.wrap ((k : Int) + 1)) = LV.int .i64 ((k + 1 : Nat) : Int) := step_i hlt (by decide)
    have hno : fits u ([a, b][k]'hlt) = false → unionOk ps us u = false := fun h => by
      rw [hu]
      match k, hlt, h with
      | 0, _, h => simp at h; simp [h]
      | 1, _, h => simp at h; simp [h]
    ((repeat ((conv => whnf); first | refine brT ?_ | refine brF ?_)); conv => whnf)
    refine ⟨rfl, by decide, k, rfl, hlt, ?_⟩
    ((repeat ((conv => whnf); first | refine brT ?_ | refine brF ?_)); conv => whnf)
    refine ⟨rfl, by simp, ([a, b][k]'hlt).lv, ?_, rfl, ?_⟩
    · match k, hlt with
      | 0, _ => rfl
      | 1, _ => rfl
    ((repeat' (((repeat ((conv => whnf); first | refine brT ?_ | refine brF ?_)); conv => whnf); first | (refine And.intro ?_ ?_ <;> (intro h; rw [h]; revert h; intro _)) | (refine And.intro (a := drawB _ _ = true) (by kernel_rfl) ?_) | (refine Exists.intro _ (And.intro (livedTo_spec ([a, b][k]'hlt) _) ?_)))); all_goals ((repeat ((conv => whnf); first | refine brT ?_ | refine brF ?_)); conv => whnf))
    · refine fin ?_
      rw [hno]
      grind [fits, notB_t, notB_f, ltI_t, ltI_f, leI_t, leI_f]
    · refine fin ?_
      rw [hno]
      grind [fits, notB_t, notB_f, ltI_t, ltI_f, leI_t, leI_f]
    · rename_i g1 g2
      refine round_end (k + 1) ⟨hlt, fun j hj hjk => ?_⟩ (by omega) ⟨?_, ⟨rfl, rfl, trivial⟩, rfl, rfl⟩
      · by_cases ej : j = k
        · subst ej
          grind [fits, notB_t, notB_f, ltI_t, ltI_f, leI_t, leI_f]
        · exact hf j hj (by omega)
      · ((repeat ((conv => whnf); first | refine ⟨e, ?_⟩ | refine ⟨rfl, ?_⟩)); trivial)
  · have h3 : k = 2 := by rw [ltI_f] at h1; simp at h1; omega
    subst h3
    ((repeat ((conv => whnf); first | refine brT ?_ | refine brF ?_)); conv => whnf)
    refine fin ?_
    have f0 := hf 0 (by omega) (by omega)
    have f1 := hf 1 (by omega) (by omega)
    simp at f0 f1
    rw [hu, f0, f1]
    rfl
end Go.Proofs.Ytfdjeflnjciloaa
