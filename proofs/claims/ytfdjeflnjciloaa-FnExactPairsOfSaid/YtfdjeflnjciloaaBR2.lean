/- Contracts of functions of the program and of its model, told over readings. -/
import Derived.Test.YtfdjeflnjciloaaBR0
namespace Go.Proofs.Ytfdjeflnjciloaa
open Go.Lg
set_option maxHeartbeats 1600000
set_option maxRecDepth 10000
set_option linter.unusedVariables false
set_option linter.unusedSimpArgs false

theorem toIntS_h (r : List Int) (hb : 8 * r.length ≤ 281474976710656) : HSpec env.P 65 [rowSl r] [] (.hs 0 (r.map intLV).length) [.arr 3 1 (r.map intLV)] := by
  refine HSpec_of_code (E := env.x [] 0) env_ok.x (fn := Try.f65) Try.func65 rfl Try.call65 _ _ _ _ ?_
  ((repeat ((conv => whnf); first | refine brT ?_ | refine brF ?_)); conv => whnf)
  intro hp
  have hp' : r.length ≤ Go.maxLen := by simpa using hp
  ((repeat ((conv => whnf); first | refine brT ?_ | refine brF ?_)); conv => whnf)
  refine ⟨r.length, by simp, by simp, hb, hp', rfl, by decide, ?_⟩
  ((repeat ((conv => whnf); first | refine brT ?_ | refine brF ?_)); conv => whnf)
  refine loop_rule (α := Nat) (fun k => [(4, .int .i64 (k : Int))]) (fun k => [.arr 3 1 (fillLV intLV (intLV 0) r k)]) (fun k => r.length - k) (fun k => k ≤ r.length) 0 (Nat.zero_le _) ?_ ?_
  · refine ⟨?_, ⟨by simp [fillLV, intLV], trivial⟩, rfl, rfl⟩
    ((repeat ((conv => whnf); refine ⟨rfl, ?_⟩)); trivial)
  rintro k hk
  ((repeat ((conv => whnf); first | refine brT ?_ | refine brF ?_)); conv => whnf)
  intro _
  ((repeat ((conv => whnf); first | refine brT ?_ | refine brF ?_)); conv => whnf)
  (refine ⟨fun h1 => ?_, fun h1 => ?_⟩ <;> rw [h1])
  · have hlt : k < r.length := by rw [ltI_t] at h1; simp at h1; omega
    ((repeat ((conv => whnf); first | refine brT ?_ | refine brF ?_)); conv => whnf)
    refine ⟨k, intLV r[k], rfl, by simp [hlt], rfl, ?_⟩
    ((repeat ((conv => whnf); first | refine brT ?_ | refine brF ?_)); conv => whnf)
    refine ⟨(fill_len hk).symm, rfl, k, rfl, by rw [fill_len hk]; exact hlt, ?_⟩
    ((repeat ((conv => whnf); first | refine brT ?_ | refine brF ?_)); conv => whnf)
    refine ⟨(fill_len hk).symm, k, [], intLV 0, rfl, by simp [getP, fill_get hlt], rfl, rfl, rfl, fillLV intLV (intLV 0) r (k + 1), by rw [fill_get hlt]; exact fill_set hlt, ?_⟩
    ((repeat ((conv => whnf); first | refine brT ?_ | refine brF ?_)); conv => whnf)
    refine round_end (k + 1) hlt (by omega) ⟨?_, ⟨rfl, trivial⟩, rfl, rfl⟩
    have e := step_i hlt hp'
    ((repeat ((conv => whnf); first | refine ⟨e, ?_⟩ | refine ⟨rfl, ?_⟩)); trivial)
  · have h4 : k = r.length := by rw [ltI_f] at h1; simp at h1; omega
    subst h4
    ((repeat ((conv => whnf); first | refine brT ?_ | refine brF ?_)); conv => whnf)
    exact ⟨[.hs 0 r.length], by simp [tupOf], rfl, .inl ⟨⟨rfl, trivial⟩, ⟨congrArg (Blk.arr 3 1) fill_all, trivial⟩, rfl, rfl⟩⟩

theorem toIntS_f (r : List Int) (hb : 8 * r.length ≤ 281474976710656) : FSpec env.P 65 [rowSl r] (rowOw r) := by
  refine FSpec_of_code env_ok (fn := Try.f65) Try.func65 rfl Try.call65 _ _ ?_
  ((repeat ((conv => whnf); first | refine brT ?_ | refine brF ?_)); conv => whnf)
  intro hp
  have hp' : r.length ≤ Go.maxLen := by simpa using hp
  ((repeat ((conv => whnf); first | refine brT ?_ | refine brF ?_)); conv => whnf)
  refine ⟨r.length, by simp, by simp, hb, hp', rfl, by decide, ?_⟩
  ((repeat ((conv => whnf); first | refine brT ?_ | refine brF ?_)); conv => whnf)
  refine loop_rule (α := Nat) (fun k => [(4, .int .i64 (k : Int))]) (fun k => [.arr 3 1 (fillLV intLV (intLV 0) r k)]) (fun k => r.length - k) (fun k => k ≤ r.length) 0 (Nat.zero_le _) ?_ ?_
  · refine ⟨?_, ⟨by simp [fillLV, intLV], trivial⟩, rfl, rfl⟩
    ((repeat ((conv => whnf); refine ⟨rfl, ?_⟩)); trivial)
  rintro k hk
  ((repeat ((conv => whnf); first | refine brT ?_ | refine brF ?_)); conv => whnf)
  intro _
  ((repeat ((conv => whnf); first | refine brT ?_ | refine brF ?_)); conv => whnf)
  (refine ⟨fun h1 => ?_, fun h1 => ?_⟩ <;> rw [h1])
  · have hlt : k < r.length := by rw [ltI_t] at h1; simp at h1; omega
    ((repeat ((conv => whnf); first | refine brT ?_ | refine brF ?_)); conv => whnf)
    refine ⟨k, intLV r[k], rfl, by simp [hlt], rfl, ?_⟩
    ((repeat ((conv => whnf); first | refine brT ?_ | refine brF ?_)); conv => whnf)
    refine ⟨(fill_len hk).symm, rfl, k, rfl, by rw [fill_len hk]; exact hlt, ?_⟩
    ((repeat ((conv => whnf); first | refine brT ?_ | refine brF ?_)); conv => whnf)
    refine ⟨(fill_len hk).symm, k, [], intLV 0, rfl, by simp [getP, fill_get hlt], rfl, rfl, rfl, fillLV intLV (intLV 0) r (k + 1), by rw [fill_get hlt]; exact fill_set hlt, ?_⟩
    ((repeat ((conv => whnf); first | refine brT ?_ | refine brF ?_)); conv => whnf)
    refine round_end (k + 1) hlt (by omega) ⟨?_, ⟨rfl, trivial⟩, rfl, rfl⟩
    have e := step_i hlt hp'
    ((repeat ((conv => whnf); first | refine ⟨e, ?_⟩ | refine ⟨rfl, ?_⟩)); trivial)
  · have h4 : k = r.length := by rw [ltI_f] at h1; simp at h1; omega
    subst h4
    ((repeat ((conv => whnf); first | refine brT ?_ | refine brF ?_)); conv => whnf)
    exact ⟨(fill_len (Nat.le_refl _)).symm, rfl, rfl, fill_all, by simp⟩

/-- Rows that may be laid out again. -/
structure RowsOK (rows : List (List Int)) : Prop where
  n : 24 * rows.length ≤ 281474976710656
  each : ∀ r ∈ rows, 8 * r.length ≤ 281474976710656

theorem toIntSS_h (rows : List (List Int)) (hb : RowsOK rows) : HSpec env.P 150 [.sl (rows.map rowSl)] [] (.hs 0 (rows.map rowOw).length) [.tree 29 1 (rows.map rowOw)] := by
  refine HSpec_of_code (E := env.x [65] 0) env_ok.x (fn := Try.f150) Try.func150 rfl Try.call150 _ _ _ _ ?_
  ((repeat ((conv => whnf); first | refine brT ?_ | refine brF ?_)); conv => whnf)
  intro hp
  have hp' : rows.length ≤ Go.maxLen := by simpa using hp
  ((repeat ((conv => whnf); first | refine brT ?_ | refine brF ?_)); conv => whnf)
  refine ⟨rows.length, by simp, by simp, hb.n, hp', rfl, by decide, ?_⟩
  ((repeat ((conv => whnf); first | refine brT ?_ | refine brF ?_)); conv => whnf)
  refine loop_ruleR (α := Nat) [.old 0] (fun k => [(4, .int .i64 (k : Int))]) (fun k => [.tree 29 1 (fillLV rowOw .nil rows k)]) (fun k => rows.length - k) (fun k => k ≤ rows.length) 0 (Nat.zero_le _) ?_ ?_
  · refine ⟨?_, ⟨rfl, by simp [fillLV, renB], trivial⟩, rfl⟩
    ((repeat ((conv => whnf); refine ⟨rfl, rfl, ?_⟩)); trivial)
  rintro k hk
  ((repeat ((conv => whnf); first | refine brT ?_ | refine brF ?_)); conv => whnf)
  intro _
  ((repeat ((conv => whnf); first | refine brT ?_ | refine brF ?_)); conv => whnf)
  (refine ⟨fun h1 => ?_, fun h1 => ?_⟩ <;> rw [h1])
  · have hlt : k < rows.length := by rw [ltI_t] at h1; simp at h1; omega
    ((repeat ((conv => whnf); first | refine brT ?_ | refine brF ?_)); conv => whnf)
    refine ⟨k, rowSl rows[k], rfl, by simp [hlt], rfl, ?_⟩
    ((repeat ((conv => whnf); first | refine brT ?_ | refine brF ?_)); conv => whnf)
    refine ⟨[], _, _, _, _, toIntS_h rows[k] (hb.each _ (by simp)), rfl, rfl, rfl, trivial, ?_⟩
    ((repeat ((conv => whnf); first | refine brT ?_ | refine brF ?_)); conv => whnf)
    refine ⟨(fill_len hk).symm, rfl, k, rfl, by rw [fill_len hk]; exact hlt, ?_⟩
    ((repeat ((conv => whnf); first | refine brT ?_ | refine brF ?_)); conv => whnf)
    refine ⟨rfl, ?_⟩
    ((repeat ((conv => whnf); first | refine brT ?_ | refine brF ?_)); conv => whnf)
    refine ⟨(fill_len hk).symm, rfl, .nil, .nil, fillLV rowOw .nil rows (k + 1), fill_get hlt, rfl, rfl, fill_set hlt, ?_⟩
    ((repeat ((conv => whnf); first | refine brT ?_ | refine brF ?_)); conv => whnf)
    refine round_end (k + 1) hlt (by omega) ⟨?_, ⟨rfl, trivial⟩, rfl, rfl⟩
    have e := step_i hlt hp'
    ((repeat ((conv => whnf); first | refine ⟨e, ?_⟩ | refine ⟨rfl, ?_⟩)); trivial)
  · have h4 : k = rows.length := by rw [ltI_f] at h1; simp at h1; omega
    subst h4
    ((repeat ((conv => whnf); first | refine brT ?_ | refine brF ?_)); conv => whnf)
    exact ⟨[.hs 0 rows.length], by simp [tupOf], rfl, .inl ⟨⟨rfl, trivial⟩, ⟨congrArg (Blk.tree 29 1) fill_all, trivial⟩, rfl, rfl⟩⟩

/-- Handed out as frozen rows. -/
theorem toIntSS_f (rows : List (List Int)) (hb : RowsOK rows) : FSpec env.P 150 [.sl (rows.map rowSl)] (.own 29 1 (rows.map rowSl)) := by
  refine FSpec_of_code env_ok (fn := Try.f150) Try.func150 rfl Try.call150 _ _ ?_
  ((repeat ((conv => whnf); first | refine brT ?_ | refine brF ?_)); conv => whnf)
  intro hp
  have hp' : rows.length ≤ Go.maxLen := by simpa using hp
  ((repeat ((conv => whnf); first | refine brT ?_ | refine brF ?_)); conv => whnf)
  refine ⟨rows.length, by simp, by simp, hb.n, hp', rfl, by decide, ?_⟩
  ((repeat ((conv => whnf); first | refine brT ?_ | refine brF ?_)); conv => whnf)
  refine loop_rule (α := Nat) (fun k => [(4, .int .i64 (k : Int))]) (fun k => [.arr 29 1 (fillLV rowSl .nil rows k)]) (fun k => rows.length - k) (fun k => k ≤ rows.length) 0 (Nat.zero_le _) ?_ ?_
  · refine ⟨?_, ⟨by simp [fillLV], trivial⟩, rfl, rfl⟩
    ((repeat ((conv => whnf); refine ⟨rfl, ?_⟩)); trivial)
  rintro k hk
  ((repeat ((conv => whnf); first | refine brT ?_ | refine brF ?_)); conv => whnf)
  intro _
  ((repeat ((conv => whnf); first | refine brT ?_ | refine brF ?_)); conv => whnf)
  (refine ⟨fun h1 => ?_, fun h1 => ?_⟩ <;> rw [h1])
  · have hlt : k < rows.length := by rw [ltI_t] at h1; simp at h1; omega
    ((repeat ((conv => whnf); first | refine brT ?_ | refine brF ?_)); conv => whnf)
    refine ⟨k, rowSl rows[k], rfl, by simp [hlt], rfl, ?_⟩
    ((repeat ((conv => whnf); first | refine brT ?_ | refine brF ?_)); conv => whnf)
    refine ⟨_, toIntS_f rows[k] (hb.each _ (by simp)), ?_⟩
    ((repeat ((conv => whnf); first | refine brT ?_ | refine brF ?_)); conv => whnf)
    refine ⟨(fill_len hk).symm, rfl, k, rfl, by rw [fill_len hk]; exact hlt, ?_⟩
    ((repeat ((conv => whnf); first | refine brT ?_ | refine brF ?_)); conv => whnf)
    refine ⟨(fill_len hk).symm, k, [], .nil, rfl, by simp [getP, fill_get hlt], rfl, rfl, rfl, fillLV rowSl .nil rows (k + 1), by rw [fill_get hlt]; exact fill_set hlt, ?_⟩
    ((repeat ((conv => whnf); first | refine brT ?_ | refine brF ?_)); conv => whnf)
    refine round_end (k + 1) hlt (by omega) ⟨?_, ⟨rfl, trivial⟩, rfl, rfl⟩
    have e := step_i hlt hp'
    ((repeat ((conv => whnf); first | refine ⟨e, ?_⟩ | refine ⟨rfl, ?_⟩)); trivial)
  · have h4 : k = rows.length := by rw [ltI_f] at h1; simp at h1; omega
    subst h4
    ((repeat ((conv => whnf); first | refine brT ?_ | refine brF ?_)); conv => whnf)
    exact ⟨(fill_len (Nat.le_refl _)).symm, rfl, rfl, fill_all, by simp⟩

def relHS (n : Int) (a m : Nat) : LV := .st [.int .i64 n, .hs a m]
theorem toRelation_h (n : Int) (rows : List (List Int)) (hb : RowsOK rows) : HSpec env.P 69 [relLV n rows] [] (relHS n 0 (rows.map rowOw).length) [.tree 29 1 (rows.map rowOw)] := by
  refine HSpec_of_code (E := env.x [150] 0) env_ok.x (fn := Try.f69) Try.func69 rfl Try.call69 _ _ _ _ ?_
  ((repeat ((conv => whnf); first | refine brT ?_ | refine brF ?_)); conv => whnf)
  refine ⟨[], _, _, _, _, toIntSS_h rows hb, rfl, rfl, rfl, trivial, ?_⟩
  ((repeat ((conv => whnf); first | refine brT ?_ | refine brF ?_)); conv => whnf)
  refine ⟨[relHS n 0 (rows.map rowOw).length], rfl, rfl, .inr ⟨[.old 3], ?_, ?_, rfl⟩⟩
  · ((repeat ((conv => whnf); refine ⟨rfl, rfl, ?_⟩)); trivial)
  · exact ⟨rfl, rfl, trivial⟩
theorem toRelation_f (n : Int) (rows : List (List Int)) (hb : RowsOK rows) : FSpec env.P 69 [relLV n rows] (relLV n rows) := by
  refine FSpec_of_code env_ok (fn := Try.f69) Try.func69 rfl Try.call69 _ _ ?_
  ((repeat ((conv => whnf); first | refine brT ?_ | refine brF ?_)); conv => whnf)
  refine ⟨_, toIntSS_f rows hb, ?_⟩
  ((repeat ((conv => whnf); first | refine brT ?_ | refine brF ?_)); conv => whnf)
  exact ⟨_, rfl, rfl, rfl, rfl, rfl, by simp [exsW]⟩

theorem eqIntSS_spec (ps qs : List (List Int)) : FSpec env.P 152 [.sl (ps.map rowSl), .sl (qs.map rowSl)] (.bool (eqList (eqList eqI) ps qs)) := by
  refine FSpec_of_code env_ok (fn := Try.f152) Try.func152 rfl Try.call152 _ _ ?_
  ((repeat ((conv => whnf); first | refine brT ?_ | refine brF ?_)); conv => whnf)
  intro hp
  ((repeat ((conv => whnf); first | refine brT ?_ | refine brF ?_)); conv => whnf)
  intro hq
  ((repeat ((conv => whnf); first | refine brT ?_ | refine brF ?_)); conv => whnf)
  (refine ⟨fun h => ?_, fun h => ?_⟩ <;> rw [h])
  · ((repeat ((conv => whnf); first | refine brT ?_ | refine brF ?_)); conv => whnf)
    refine fin ?_
    rw [notB_t] at h
    rw [eqList_len (eqI_nolen h)]
  rw [notB_f] at h
  have hl := eqI_len h
  have hp' : ps.length ≤ Go.maxLen := by simpa using hp
  ((repeat ((conv => whnf); first | refine brT ?_ | refine brF ?_)); conv => whnf)
  refine loop_rule (α := Nat) (fun k => [(5, .int .i64 (k : Int))]) (fun _ => []) (fun k => ps.length - k) (fun k => k ≤ ps.length ∧ eqTo (eqList eqI) ps qs k) 0 ⟨Nat.zero_le _, fun _ _ _ h => absurd h (Nat.not_lt_zero _)⟩ ?_ ?_
  · refine ⟨?_, trivial, rfl, rfl⟩
    ((repeat ((conv => whnf); refine ⟨rfl, ?_⟩)); trivial)
  rintro k ⟨hk, he⟩
  ((repeat ((conv => whnf); first | refine brT ?_ | refine brF ?_)); conv => whnf)
  intro _
  ((repeat ((conv => whnf); first | refine brT ?_ | refine brF ?_)); conv => whnf)
  (refine ⟨fun h1 => ?_, fun h1 => ?_⟩ <;> rw [h1])
  · have hlt : k < ps.length := by rw [ltI_t] at h1; simp at h1; omega
    have hlt2 : k < qs.length := by omega
    ((repeat ((conv => whnf); first | refine brT ?_ | refine brF ?_)); conv => whnf)
    refine ⟨by kernel_rfl, ?_⟩
    ((repeat ((conv => whnf); first | refine brT ?_ | refine brF ?_)); conv => whnf)
    refine ⟨k, rowSl ps[k], rfl, by simp [hlt], rfl, ?_⟩
    ((repeat ((conv => whnf); first | refine brT ?_ | refine brF ?_)); conv => whnf)
    refine ⟨k, rowSl qs[k], rfl, by simp [hlt2], rfl, ?_⟩
    ((repeat ((conv => whnf); first | refine brT ?_ | refine brF ?_)); conv => whnf)
    refine ⟨_, eqIntS_spec ps[k] qs[k], ?_⟩
    ((repeat ((conv => whnf); first | refine brT ?_ | refine brF ?_)); conv => whnf)
    (refine ⟨fun h3 => ?_, fun h3 => ?_⟩ <;> rw [h3])
    · rw [notB_t] at h3
      ((repeat ((conv => whnf); first | refine brT ?_ | refine brF ?_)); conv => whnf)
      refine fin ?_
      rw [eqList_no (k := k) (x := ps[k]) (y := qs[k]) (by simp [hlt]) (by simp [hlt2]) h3]
    · rw [notB_f] at h3
      ((repeat ((conv => whnf); first | refine brT ?_ | refine brF ?_)); conv => whnf)
      refine round_end (k + 1) ⟨hlt, he.succ (x := ps[k]) (y := qs[k]) (by simp [hlt]) (by simp [hlt2]) h3⟩ (by omega) ⟨?_, trivial, rfl, rfl⟩
      have e := step_i hlt hp'
      ((repeat ((conv => whnf); first | refine ⟨e, ?_⟩ | refine ⟨rfl, ?_⟩)); trivial)
  · have h4 : k = ps.length := by rw [ltI_f] at h1; simp at h1; omega
    subst h4
    ((repeat ((conv => whnf); first | refine brT ?_ | refine brF ?_)); conv => whnf)
    refine fin ?_
    rw [eqTo.all hl he]

def eqRel (n : Int) (ps : List (List Int)) (m : Int) (qs : List (List Int)) : Bool := eqI n m && eqList (eqList eqI) ps qs
theorem eqRelation_spec (n : Int) (ps : List (List Int)) (m : Int) (qs : List (List Int)) : FSpec env.P 71 [relLV n ps, relLV m qs] (.bool (eqRel n ps m qs)) := by
  refine FSpec_of_code env_ok (fn := Try.f71) Try.func71 rfl Try.call71 _ _ ?_
  ((repeat' (((repeat ((conv => whnf); first | refine brT ?_ | refine brF ?_)); conv => whnf); first | (refine And.intro ?_ ?_ <;> (intro h; rw [h]; revert h; intro _)) | (refine And.intro (a := drawB _ _ = true) (by kernel_rfl) ?_) | (refine Exists.intro _ (And.intro (eqIntSS_spec ps qs) ?_)))); all_goals ((repeat ((conv => whnf); first | refine brT ?_ | refine brF ?_)); conv => whnf))
  all_goals (refine fin ?_; simp_all [eqRel, notB])
theorem eqRows_refl (rows : List (List Int)) : eqList (eqList eqI) rows rows = true := eqList_refl eqIntS_refl rows
theorem eqRel_refl (n : Int) (rows : List (List Int)) : eqRel n rows n rows = true := by simp [eqRel, eqI_refl, eqRows_refl]
end Go.Proofs.Ytfdjeflnjciloaa
