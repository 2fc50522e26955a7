/- Contracts of functions of the program and of its model, told over readings. -/
import Derived.Test.YtpfipmjmblgjfaaFWGC
namespace Go.Proofs.Ytpfipmjmblgjfaa
open Go.Lg
set_option maxHeartbeats 1600000
set_option maxRecDepth 10000
set_option linter.unusedVariables false
set_option linter.unusedSimpArgs false

/-- Where the first one lies for which a test holds. -/
def idxF {α : Type} (q : α → Bool) : Nat → List α → Int
  | _, [] => -1
  | i, p :: ps => match q p with | true => (i : Int) | false => idxF q (i + 1) ps
theorem idxF_ge {α : Type} (q : α → Bool) : ∀ (i : Nat) (ps : List α), leI 0 (idxF q i ps) = ps.any q
  | _, [] => by simp only [idxF, List.any_nil]; rw [leI_f]; omega
  | i, p :: ps => by
    simp only [idxF, List.any_cons]
    cases h : q p
    · simpa using idxF_ge q (i + 1) ps
    · simp only [Bool.true_or]; rw [leI_t]; omega
def sameName (r q : Rul) : Bool := eqS q.name r.name
theorem areRules1_spec (q r : Rul) : FSpec env.P 178 [q.lv, .ref r.lv] (.bool (sameName r q)) := by
  refine FSpec_of_code env_ok (fn := Try.f178) Try.func178 rfl Try.call178 _ _ ?_
  ((repeat ((conv => whnf); first | refine brT ?_ | refine brF ?_)); conv => whnf)
  exact fin rfl
theorem indexRul_spec (r : Rul) (qs : List Rul) : FSpec env.P 206 [.sl (qs.map Rul.lv), .clos 178 [.ref r.lv]] (.int .i64 (idxF (sameName r) 0 qs)) := by
  refine FSpec_of_code env_ok (fn := Try.f206) Try.func206 rfl Try.call206 _ _ ?_
  ((repeat ((conv => whnf); first | refine brT ?_ | refine brF ?_)); conv => whnf)
  intro hp
  have hp' : qs.length ≤ Go.maxLen := by simpa using hp
  ((repeat ((conv => whnf); first | refine brT ?_ | refine brF ?_)); conv => whnf)
  refine loop_rule (α := Nat) (fun k => [(8, .int .i64 (k : Int))]) (fun k => []) (fun k => qs.length - k) (fun k => k ≤ qs.length ∧ idxF (sameName r) k (qs.drop k) = idxF (sameName r) 0 qs) 0 ⟨Nat.zero_le _, rfl⟩ ?_ ?_
  · refine ⟨?_, trivial, rfl, rfl⟩
    ((repeat ((conv => whnf); refine ⟨rfl, ?_⟩)); trivial)
  rintro k ⟨hk, hf⟩
  ((repeat ((conv => whnf); first | refine brT ?_ | refine brF ?_)); conv => whnf)
  (refine ⟨fun h1 => ?_, fun h1 => ?_⟩ <;> rw [h1])
  · have hlt : k < qs.length := by rw [ltI_t] at h1; simp at h1; omega
    rw [List.drop_eq_getElem_cons hlt] at hf
    simp only [idxF] at hf
    ((repeat ((conv => whnf); first | refine brT ?_ | refine brF ?_)); conv => whnf)
    refine ⟨k, qs[k].lv, rfl, by simp [hlt], rfl, ?_⟩
    ((repeat ((conv => whnf); first | refine brT ?_ | refine brF ?_)); conv => whnf)
    refine ⟨_, areRules1_spec qs[k] r, ?_⟩
    ((repeat ((conv => whnf); first | refine brT ?_ | refine brF ?_)); conv => whnf)
    (refine ⟨fun h2 => ?_, fun h2 => ?_⟩ <;> rw [h2])
    · rw [h2] at hf
      ((repeat ((conv => whnf); first | refine brT ?_ | refine brF ?_)); conv => whnf)
      exact finI hf
    · rw [h2] at hf
      ((repeat ((conv => whnf); first | refine brT ?_ | refine brF ?_)); conv => whnf)
      refine round_end (k + 1) ⟨hlt, hf⟩ (by omega) ⟨?_, trivial, rfl, rfl⟩
      have e := step_i hlt hp'
      ((repeat ((conv => whnf); first | refine ⟨e, ?_⟩ | refine ⟨rfl, ?_⟩)); trivial)
  · have h3 : qs.length ≤ k := by rw [ltI_f] at h1; simp at h1; omega
    rw [List.drop_eq_nil_of_le h3] at hf
    ((repeat ((conv => whnf); first | refine brT ?_ | refine brF ?_)); conv => whnf)
    exact finI hf
theorem containsRul_spec (r : Rul) (qs : List Rul) : FSpec env.P 177 [.sl (qs.map Rul.lv), .clos 178 [.ref r.lv]] (.bool (qs.any (sameName r))) := by
  refine FSpec_of_code env_ok (fn := Try.f177) Try.func177 rfl Try.call177 _ _ ?_
  ((repeat ((conv => whnf); first | refine brT ?_ | refine brF ?_)); conv => whnf)
  refine ⟨_, indexRul_spec r qs, ?_⟩
  ((repeat ((conv => whnf); first | refine brT ?_ | refine brF ?_)); conv => whnf)
  exact fin (idxF_ge _ _ _)
def okAt (rs : List Rul) (i : Nat) : Bool := match rs[i]? with | some r => ruleB r && !((rs.take i).any (sameName r)) | none => true
def rulesB (rs : List Rul) : Bool := leI (rs.length : Int) 12 && (List.range rs.length).all (okAt rs)
theorem rulesB_no {rs : List Rul} {k : Nat} (hk : k < rs.length) (h : (ruleB rs[k] && !((rs.take k).any (sameName rs[k]))) = false) : rulesB rs = false := by
  unfold rulesB
  rw [show (List.range rs.length).all (okAt rs) = false from ?_, Bool.and_false]
  rw [List.all_eq_false]
  exact ⟨k, List.mem_range.2 hk, by simp only [okAt, List.getElem?_eq_getElem hk, h]; simp⟩
theorem rulesB_yes {rs : List Rul} (h : rs.length ≤ 12) (ha : ∀ i, i < rs.length → okAt rs i = true) : rulesB rs = true := by
  unfold rulesB
  rw [Bool.and_eq_true, leI_t, List.all_eq_true]
  exact ⟨by omega, fun i hi => ha i (List.mem_range.1 hi)⟩
theorem rulesB_long {rs : List Rul} (h : ltI 12 (rs.length : Int) = true) : rulesB rs = false := by
  unfold rulesB
  rw [show leI (rs.length : Int) 12 = false by rw [leI_f]; rw [ltI_t] at h; omega]; rfl
theorem areRules_impl (rs : List Rul) : FSpec env.P 133 [.sl (rs.map Rul.lv)] (.bool (rulesB rs)) := by
  refine FSpec_of_code env_ok (fn := Try.f133) Try.func133 rfl Try.call133 _ _ ?_
  ((repeat ((conv => whnf); first | refine brT ?_ | refine brF ?_)); conv => whnf)
  intro hm
  rw [List.length_map] at hm ⊢
  ((repeat ((conv => whnf); first | refine brT ?_ | refine brF ?_)); conv => whnf)
  (refine ⟨fun h => ?_, fun h => ?_⟩ <;> rw [h])
  · ((repeat ((conv => whnf); first | refine brT ?_ | refine brF ?_)); conv => whnf); exact fin (rulesB_long h).symm
  rw [ltI_f] at h
  ((repeat ((conv => whnf); first | refine brT ?_ | refine brF ?_)); conv => whnf)
  intro _
  rw [List.length_map]
  ((repeat ((conv => whnf); first | refine brT ?_ | refine brF ?_)); conv => whnf)
  refine loop_rule (α := Nat) (fun k => [(10, .int .i64 (k : Int))]) (fun _ => []) (fun k => rs.length - k) (fun k => k ≤ rs.length ∧ ∀ i, i < k → okAt rs i = true) 0 ⟨Nat.zero_le _, fun _ h => absurd h (Nat.not_lt_zero _)⟩ ?_ ?_
  · refine ⟨?_, trivial, rfl, rfl⟩
    ((repeat ((conv => whnf); refine ⟨rfl, ?_⟩)); trivial)
  rintro k ⟨hk, hz⟩
  ((repeat ((conv => whnf); first | refine brT ?_ | refine brF ?_)); conv => whnf)
  (refine ⟨fun h1 => ?_, fun h1 => ?_⟩ <;> rw [h1])
  · have hlt : k < rs.length := by rw [ltI_t] at h1; omega
    ((repeat ((conv => whnf); first | refine brT ?_ | refine brF ?_)); conv => whnf)
    refine ⟨k, rs[k].lv, rfl, by simp [hlt], rfl, ?_⟩
    ((repeat ((conv => whnf); first | refine brT ?_ | refine brF ?_)); conv => whnf)
    refine ⟨_, isRule_impl rs[k], ?_⟩
    ((repeat ((conv => whnf); first | refine brT ?_ | refine brF ?_)); conv => whnf)
    (refine ⟨fun h2 => ?_, fun h2 => ?_⟩ <;> rw [h2])
    · rw [notB_t] at h2
      ((repeat ((conv => whnf); first | refine brT ?_ | refine brF ?_)); conv => whnf)
      exact fin (rulesB_no hlt (by rw [h2]; rfl)).symm
    rw [notB_f] at h2
    ((repeat ((conv => whnf); first | refine brT ?_ | refine brF ?_)); conv => whnf)
    refine ⟨0, k, rfl, rfl, Nat.zero_le _, by simp; omega, by simp [Rul.lv, LV.size, LV.sizes], ?_⟩
    ((repeat ((conv => whnf); first | refine brT ?_ | refine brF ?_)); conv => whnf)
    refine ⟨_, by have h9 := containsRul_spec rs[k] (rs.take k); rw [List.map_take] at h9; exact h9, ?_⟩
    ((repeat ((conv => whnf); first | refine brT ?_ | refine brF ?_)); conv => whnf)
    (refine ⟨fun h3 => ?_, fun h3 => ?_⟩ <;> rw [h3])
    · ((repeat ((conv => whnf); first | refine brT ?_ | refine brF ?_)); conv => whnf)
      exact fin (rulesB_no hlt (by rw [h3, Bool.not_true, Bool.and_false])).symm
    ((repeat ((conv => whnf); first | refine brT ?_ | refine brF ?_)); conv => whnf)
    refine round_end (k + 1) ⟨hlt, fun i hi => ?_⟩ (by omega) ⟨?_, trivial, rfl, rfl⟩
    · by_cases e : i = k
      · subst e; simp only [okAt, List.getElem?_eq_getElem hlt, h2, h3]; rfl
      · exact hz i (by omega)
    have e := step_i hlt hm
    ((repeat ((conv => whnf); first | refine ⟨e, ?_⟩ | refine ⟨rfl, ?_⟩)); trivial)
  · have h4 : k = rs.length := by rw [ltI_f] at h1; omega
    subst h4
    ((repeat ((conv => whnf); first | refine brT ?_ | refine brF ?_)); conv => whnf)
    exact fin (rulesB_yes (by omega) hz).symm
theorem areRules_spec (rs : List Rul) : FSpec env.P 131 [.sl (rs.map Rul.lv)] (.bool (rulesB rs)) := by
  refine FSpec_of_code env_ok (fn := Try.f131) Try.func131 rfl Try.call131 _ _ ?_
  ((repeat ((conv => whnf); first | refine brT ?_ | refine brF ?_)); conv => whnf)
  intro hm
  rw [List.length_map] at hm ⊢
  ((repeat ((conv => whnf); first | refine brT ?_ | refine brF ?_)); conv => whnf)
  (refine ⟨fun h => ?_, fun h => ?_⟩ <;> rw [h])
  · ((repeat ((conv => whnf); first | refine brT ?_ | refine brF ?_)); conv => whnf); exact fin (rulesB_long h).symm
  rw [ltI_f] at h
  ((repeat ((conv => whnf); first | refine brT ?_ | refine brF ?_)); conv => whnf)
  intro _
  rw [List.length_map]
  ((repeat ((conv => whnf); first | refine brT ?_ | refine brF ?_)); conv => whnf)
  refine loop_rule (α := Nat) (fun k => [(11, .int .i64 (k : Int))]) (fun _ => []) (fun k => rs.length - k) (fun k => k ≤ rs.length ∧ ∀ i, i < k → okAt rs i = true) 0 ⟨Nat.zero_le _, fun _ h => absurd h (Nat.not_lt_zero _)⟩ ?_ ?_
  · refine ⟨?_, trivial, rfl, rfl⟩
    ((repeat ((conv => whnf); refine ⟨rfl, ?_⟩)); trivial)
  rintro k ⟨hk, hz⟩
  ((repeat ((conv => whnf); first | refine brT ?_ | refine brF ?_)); conv => whnf)
  (refine ⟨fun h1 => ?_, fun h1 => ?_⟩ <;> rw [h1])
  · have hlt : k < rs.length := by rw [ltI_t] at h1; omega
    ((repeat ((conv => whnf); first | refine brT ?_ | refine brF ?_)); conv => whnf)
    refine ⟨k, rs[k].lv, rfl, by simp [hlt], rfl, ?_⟩
    ((repeat ((conv => whnf); first | refine brT ?_ | refine brF ?_)); conv => whnf)
    generalize hKK : kk _ = KK
    refine loop_rule (α := Nat) (fun j => [(5, .int .i64 (j : Int))]) (fun _ => [.box rs[k].lv]) (fun j => k - j) (fun j => j ≤ k ∧ ∀ i (hi : i < j) (hi2 : i < rs.length), sameName rs[k] rs[i] = false) 0 ⟨Nat.zero_le _, fun _ h => absurd h (Nat.not_lt_zero _)⟩ ?_ ?_
    · refine ⟨?_, ⟨rfl, trivial⟩, rfl, rfl⟩
      ((repeat ((conv => whnf); refine ⟨rfl, ?_⟩)); trivial)
    rintro j ⟨hj, hn⟩
    ((repeat ((conv => whnf); first | refine brT ?_ | refine brF ?_)); conv => whnf)
    (refine ⟨fun h2 => ?_, fun h2 => ?_⟩ <;> rw [h2])
    · have hjk : j < k := by rw [ltI_t] at h2; omega
      have hj2 : j < rs.length := by omega
      ((repeat ((conv => whnf); first | refine brT ?_ | refine brF ?_)); conv => whnf)
      refine ⟨true, by kernel_rfl, ?_⟩
      ((repeat ((conv => whnf); first | refine brT ?_ | refine brF ?_)); conv => whnf)
      refine ⟨j, rs[j].lv, rfl, by simp [hj2], rfl, ?_⟩
      ((repeat ((conv => whnf); first | refine brT ?_ | refine brF ?_)); conv => whnf)
      (refine ⟨fun h3 => ?_, fun h3 => ?_⟩ <;> rw [h3])
      · ((repeat ((conv => whnf); first | refine brT ?_ | refine brF ?_)); conv => whnf)
        subst hKK
        have hany : (rs.take k).any (sameName rs[k]) = true := by
          rw [List.any_eq_true]
          exact ⟨rs[j], List.mem_take_iff_getElem.2 ⟨j, by omega, rfl⟩, h3⟩
        ((repeat ((conv => whnf); first | refine brT ?_ | refine brF ?_)); conv => whnf)
        exact fin (rulesB_no hlt (by rw [hany, Bool.not_true, Bool.and_false])).symm
      ((repeat ((conv => whnf); first | refine brT ?_ | refine brF ?_)); conv => whnf)
      refine round_end (j + 1) ⟨hjk, fun i hi hi2 => ?_⟩ (by omega) ⟨?_, ⟨rfl, trivial⟩, rfl, rfl⟩
      · by_cases e : i = j
        · subst e; exact h3
        · exact hn i (by omega) hi2
      have e := step_i hj2 hm
      ((repeat ((conv => whnf); first | refine ⟨e, ?_⟩ | refine ⟨rfl, ?_⟩)); trivial)
    · have h4 : j = k := by rw [ltI_f] at h2; omega
      subst h4
      have hany : (rs.take j).any (sameName rs[j]) = false := by
        rw [List.any_eq_false]
        intro x hx
        obtain ⟨i, hi, rfl⟩ := List.mem_take_iff_getElem.1 hx
        rw [hn i (by omega) (by omega)]; simp
      subst hKK
      ((repeat ((conv => whnf); first | refine brT ?_ | refine brF ?_)); conv => whnf)
      refine ⟨_, isRule_spec rs[j], ?_⟩
      ((repeat ((conv => whnf); first | refine brT ?_ | refine brF ?_)); conv => whnf)
      (refine ⟨fun h3 => ?_, fun h3 => ?_⟩ <;> rw [h3])
      · rw [notB_t] at h3
        ((repeat ((conv => whnf); first | refine brT ?_ | refine brF ?_)); conv => whnf)
        exact fin (rulesB_no hlt (by rw [h3]; rfl)).symm
      rw [notB_f] at h3
      ((repeat ((conv => whnf); first | refine brT ?_ | refine brF ?_)); conv => whnf)
      refine round_end (j + 1) ⟨hlt, fun i hi => ?_⟩ (by omega) ⟨?_, trivial, rfl, rfl⟩
      · by_cases e : i = j
        · subst e; simp only [okAt, List.getElem?_eq_getElem hlt, h3, hany]; rfl
        · exact hz i (by omega)
      have e := step_i hlt hm
      ((repeat ((conv => whnf); first | refine ⟨e, ?_⟩ | refine ⟨rfl, ?_⟩)); trivial)
  · have h4 : k = rs.length := by rw [ltI_f] at h1; omega
    subst h4
    ((repeat ((conv => whnf); first | refine brT ?_ | refine brF ?_)); conv => whnf)
    exact fin (rulesB_yes (by omega) hz).symm
end Go.Proofs.Ytpfipmjmblgjfaa
namespace Go.Proofs.Ytpfipmjmblgjfaa
open Go.Lg
set_option maxHeartbeats 1600000
set_option maxRecDepth 10000
set_option linter.unusedVariables false
set_option linter.unusedSimpArgs false

def likeB (s p : Pr) : Bool := eqI s.a p.a && (eqI p.b 0 || eqI s.b p.b)
theorem isStepLike_spec (s p : Pr) : FSpec env.P 229 [s.lv, p.lv] (.bool (likeB s p)) := by
  refine FSpec_of_code env_ok (fn := Try.f229) Try.func229 rfl Try.call229 _ _ ?_
  ((repeat' (((repeat ((conv => whnf); first | refine brT ?_ | refine brF ?_)); conv => whnf); (refine And.intro ?_ ?_ <;> (intro h; rw [h]; revert h; intro _)))); all_goals ((repeat ((conv => whnf); first | refine brT ?_ | refine brF ?_)); conv => whnf))
  all_goals (refine fin ?_; simp_all [likeB])
theorem sexBefore_spec (e : Int) (ss : List Pr) (n : Nat) (hn : n ≤ ss.length) (hl : ss.length ≤ Go.maxLen) : FSpec env.P 228 [typLV e ss, .int .i64 (n : Int)] (.int .i64 (sexAt e ss n)) := by
  refine FSpec_of_code env_ok (fn := Try.f228) Try.func228 rfl Try.call228 _ _ ?_
  ((repeat ((conv => whnf); first | refine brT ?_ | refine brF ?_)); conv => whnf)
  (refine ⟨fun h => ?_, fun h => ?_⟩ <;> rw [h])
  · have : n = 0 := by rw [eqI_t] at h; omega
    subst this
    ((repeat ((conv => whnf); first | refine brT ?_ | refine brF ?_)); conv => whnf); exact finI rfl
  · obtain ⟨m, rfl⟩ : ∃ m, n = m + 1 := Nat.exists_eq_succ_of_ne_zero (by rintro rfl; rw [eqI_f] at h; exact h rfl)
    unfold Go.maxLen at hl
    have hw : IntKind.i64.wrap (((m + 1 : Nat) : Int) - 1) = (m : Int) := by rw [wrap64 (by omega) (by omega)]; omega
    have hlt : m < ss.length := by omega
    ((repeat ((conv => whnf); first | refine brT ?_ | refine brF ?_)); conv => whnf)
    rw [hw]
    refine ⟨m, ss[m].lv, rfl, by simp [hlt], rfl, ?_⟩
    ((repeat ((conv => whnf); first | refine brT ?_ | refine brF ?_)); conv => whnf)
    refine ⟨_, sexOfStep_spec ss[m], ?_⟩
    ((repeat ((conv => whnf); first | refine brT ?_ | refine brF ?_)); conv => whnf)
    exact finI (by simp [sexAt, hlt])
def plT (p : Int) : Nat := match eqI p 1 with | true => 182 | false => match eqI p 2 with | true => 183 | false => 184
theorem placingOf_spec (p : Int) : FSpec env.P 150 [.int .i64 p] (.lit (.iface (plT p) (.agg #[]))) := by
  refine FSpec_of_code env_ok (fn := Try.f150) Try.func150 rfl Try.call150 _ _ ?_
  ((repeat' (((repeat ((conv => whnf); first | refine brT ?_ | refine brF ?_)); conv => whnf); (refine And.intro ?_ ?_ <;> (intro h; rw [h]; revert h; intro _)))); all_goals ((repeat ((conv => whnf); first | refine brT ?_ | refine brF ?_)); conv => whnf))
  all_goals (refine fin ?_; simp_all [plT])
theorem allows1_spec (a b c : Int) : FSpec env.P 254 [.st [], .int .i64 a, .int .i64 b, .int .i64 c] (.bool (eqI a 0)) := by
  refine FSpec_of_code env_ok (fn := Try.f254) Try.func254 rfl Try.call254 _ _ ?_
  ((repeat ((conv => whnf); first | refine brT ?_ | refine brF ?_)); conv => whnf)
  exact fin rfl
theorem allows2_spec (a b c : Int) : FSpec env.P 256 [.st [], .int .i64 a, .int .i64 b, .int .i64 c] (.bool (eqI b c)) := by
  refine FSpec_of_code env_ok (fn := Try.f256) Try.func256 rfl Try.call256 _ _ ?_
  ((repeat ((conv => whnf); first | refine brT ?_ | refine brF ?_)); conv => whnf)
  exact fin rfl
theorem allows0_spec (a b c : Int) : FSpec env.P 258 [.st [], .int .i64 a, .int .i64 b, .int .i64 c] (.bool true) := by
  refine FSpec_of_code env_ok (fn := Try.f258) Try.func258 rfl Try.call258 _ _ ?_
  ((repeat ((conv => whnf); first | refine brT ?_ | refine brF ?_)); conv => whnf)
  exact fin rfl
theorem withSex_spec (e : Int) (ss : List Pr) : FSpec env.P 135 [typLV e ss] (typLV (egoR e ss) ss) := by
  refine FSpec_of_code env_ok (fn := Try.f135) Try.func135 rfl Try.call135 _ _ ?_
  ((repeat ((conv => whnf); first | refine brT ?_ | refine brF ?_)); conv => whnf)
  refine ⟨true, by kernel_rfl, ?_⟩
  ((repeat ((conv => whnf); first | refine brT ?_ | refine brF ?_)); conv => whnf)
  refine ⟨_, egoOfType_impl e ss, ?_⟩
  ((repeat ((conv => whnf); first | refine brT ?_ | refine brF ?_)); conv => whnf)
  exact ⟨_, rfl, rfl, rfl, rfl, rfl, by simp [exsW, exW]⟩
def likeL : List Pr → List Pr → Bool
  | [], _ => true
  | p :: ps, s :: ss => likeB s p && likeL ps ss
  | _ :: _, [] => false
def plB (p a b n : Int) : Bool := match eqI p 1 with | true => eqI a 0 | false => match eqI p 2 with | true => eqI b n | false => true
def fitsB (r : Rul) (e : Int) (ss : List Pr) (i : Int) : Bool :=
  (leI 0 i && leI i ((ss.length : Int) - r.fr.length)) && ((eqI r.sex 0 || eqI r.sex (sexAt e ss i.toNat)) && (likeL r.fr (ss.drop i.toNat) && plB r.place i (i + r.fr.length) ss.length))
theorem likeL_no : ∀ {ps ss : List Pr} {k : Nat} (hk : k < ps.length) (hs : k < ss.length), likeB ss[k] ps[k] = false → likeL ps ss = false
  | p :: ps, s :: ss, 0, _, _, h => by simp only [likeL]; rw [show likeB s p = false from h]; rfl
  | p :: ps, s :: ss, k + 1, hk, hs, h => by simp only [likeL]; rw [likeL_no (k := k) (by simpa using hk) (by simpa using hs) h]; simp
  | [], _, k, hk, _, _ => by simp at hk
  | _ :: _, [], k, _, hs, _ => by simp at hs
theorem likeL_yes : ∀ {ps ss : List Pr}, ps.length ≤ ss.length → (∀ k (hk : k < ps.length) (hs : k < ss.length), likeB ss[k] ps[k] = true) → likeL ps ss = true
  | [], _, _, _ => by simp only [likeL]
  | p :: ps, s :: ss, hl, h => by
    simp only [likeL, Bool.and_eq_true]
    exact ⟨h 0 (by simp) (by simp), likeL_yes (by simpa using hl) fun k hk hs => h (k + 1) (by simpa using hk) (by simpa using hs)⟩
  | _ :: _, [], hl, _ => by simp at hl
theorem fits_impl (r : Rul) (e : Int) (ss : List Pr) (i : Int) : FSpec env.P 208 [.ref r.lv, typLV e ss, .int .i64 i] (.bool (fitsB r e ss i)) := by
  refine FSpec_of_code env_ok (fn := Try.f208) Try.func208 rfl Try.call208 _ _ ?_
  ((repeat ((conv => whnf); first | refine brT ?_ | refine brF ?_)); conv => whnf)
  refine ⟨true, by kernel_rfl, ?_⟩
  ((repeat ((conv => whnf); first | refine brT ?_ | refine brF ?_)); conv => whnf)
  (refine ⟨fun h1 => ?_, fun h1 => ?_⟩ <;> rw [h1])
  · ((repeat ((conv => whnf); first | refine brT ?_ | refine brF ?_)); conv => whnf)
    exact fin (by unfold fitsB; rw [show leI 0 i = false by rw [leI_f]; rw [ltI_t] at h1; omega]; rfl)
  rw [ltI_f] at h1
  ((repeat ((conv => whnf); first | refine brT ?_ | refine brF ?_)); conv => whnf)
  intro hs
  rw [List.length_map] at hs ⊢
  ((repeat ((conv => whnf); first | refine brT ?_ | refine brF ?_)); conv => whnf)
  intro hf
  rw [List.length_map] at hf ⊢
  have hs' := hs
  have hf' := hf
  unfold Go.maxLen at hs hf
  ((repeat ((conv => whnf); first | refine brT ?_ | refine brF ?_)); conv => whnf)
  rw [show IntKind.i64.wrap ((ss.length : Int) - (r.fr.length : Int)) = (ss.length : Int) - r.fr.length from wrap64 (by omega) (by omega)]
  (refine ⟨fun h2 => ?_, fun h2 => ?_⟩ <;> rw [h2])
  · ((repeat ((conv => whnf); first | refine brT ?_ | refine brF ?_)); conv => whnf)
    exact fin (by unfold fitsB; rw [show leI i ((ss.length : Int) - r.fr.length) = false by rw [leI_f]; rw [ltI_t] at h2; omega, Bool.and_false]; rfl)
  rw [ltI_f] at h2
  obtain ⟨n, rfl⟩ : ∃ n : Nat, i = (n : Int) := ⟨i.toNat, by omega⟩
  have h12 : (leI 0 (n : Int) && leI (n : Int) ((ss.length : Int) - r.fr.length)) = true := by rw [Bool.and_eq_true, leI_t, leI_t]; omega
  have hfit : fitsB r e ss (n : Int) = ((eqI r.sex 0 || eqI r.sex (sexAt e ss n)) && (likeL r.fr (ss.drop n) && plB r.place n (n + r.fr.length) ss.length)) := by
    unfold fitsB; rw [h12, Bool.true_and, Int.toNat_natCast]
  rw [hfit]
  have hnl : n ≤ ss.length := by omega
  have hend : IntKind.i64.wrap ((n : Int) + (r.fr.length : Int)) = (n : Int) + r.fr.length := wrap64 (by omega) (by omega)
  ((repeat ((conv => whnf); first | refine brT ?_ | refine brF ?_)); conv => whnf)
  refine ⟨true, by kernel_rfl, ?_⟩
  ((repeat ((conv => whnf); first | refine brT ?_ | refine brF ?_)); conv => whnf)
  (refine ⟨fun g1 => ?_, fun g1 => ?_⟩ <;> rw [g1])
  · rw [notB_t] at g1
    ((repeat ((conv => whnf); first | refine brT ?_ | refine brF ?_)); conv => whnf)
    refine ⟨_, sexBefore_spec e ss n hnl hs', ?_⟩
    ((repeat ((conv => whnf); first | refine brT ?_ | refine brF ?_)); conv => whnf)
    (refine ⟨fun g2 => ?_, fun g2 => ?_⟩ <;> rw [g2])
    · rw [notB_t] at g2
      ((repeat ((conv => whnf); first | refine brT ?_ | refine brF ?_)); conv => whnf)
      exact fin (by rw [g1, g2]; rfl)
    rw [notB_f] at g2
    rw [show (eqI r.sex 0 || eqI r.sex (sexAt e ss n)) = true by rw [g2, Bool.or_true], Bool.true_and]
    ((repeat ((conv => whnf); first | refine brT ?_ | refine brF ?_)); conv => whnf)
    intro _
    rw [List.length_map]
    ((repeat ((conv => whnf); first | refine brT ?_ | refine brF ?_)); conv => whnf)
    refine loop_rule (α := Nat) (fun k => [(44, .int .i64 (k : Int))]) (fun _ => [.box (typLV e ss)]) (fun k => r.fr.length - k) (fun k => k ≤ r.fr.length ∧ ∀ j (hj : j < k) (h3 : n + j < ss.length) (h4 : j < r.fr.length), likeB ss[n + j] r.fr[j] = true) 0 ⟨Nat.zero_le _, fun _ h => absurd h (Nat.not_lt_zero _)⟩ ?_ ?_
    · refine ⟨?_, ⟨rfl, trivial⟩, rfl, rfl⟩
      ((repeat ((conv => whnf); refine ⟨rfl, ?_⟩)); trivial)
    rintro k ⟨hk, hz⟩
    ((repeat ((conv => whnf); first | refine brT ?_ | refine brF ?_)); conv => whnf)
    (refine ⟨fun h4 => ?_, fun h4 => ?_⟩ <;> rw [h4])
    · have hlt : k < r.fr.length := by rw [ltI_t] at h4; omega
      have hlt2 : n + k < ss.length := by omega
      ((repeat ((conv => whnf); first | refine brT ?_ | refine brF ?_)); conv => whnf)
      refine ⟨k, r.fr[k].lv, rfl, by simp [hlt], rfl, ?_⟩
      ((repeat ((conv => whnf); first | refine brT ?_ | refine brF ?_)); conv => whnf)
      refine ⟨true, by kernel_rfl, ?_⟩
      ((repeat ((conv => whnf); first | refine brT ?_ | refine brF ?_)); conv => whnf)
      rw [show IntKind.i64.wrap ((n : Int) + (k : Int)) = ((n + k : Nat) : Int) by rw [wrap64 (by omega) (by omega)]; omega]
      refine ⟨n + k, ss[n + k].lv, rfl, by simp [hlt2], rfl, ?_⟩
      ((repeat ((conv => whnf); first | refine brT ?_ | refine brF ?_)); conv => whnf)
      refine ⟨_, isStepLike_spec ss[n + k] r.fr[k], ?_⟩
      ((repeat ((conv => whnf); first | refine brT ?_ | refine brF ?_)); conv => whnf)
      (refine ⟨fun h5 => ?_, fun h5 => ?_⟩ <;> rw [h5])
      · rw [notB_t] at h5
        ((repeat ((conv => whnf); first | refine brT ?_ | refine brF ?_)); conv => whnf)
        refine fin ?_
        rw [likeL_no (k := k) (ss := ss.drop n) hlt (by simp; omega) (by simpa using h5)]; simp
      rw [notB_f] at h5
      ((repeat ((conv => whnf); first | refine brT ?_ | refine brF ?_)); conv => whnf)
      refine round_end (k + 1) ⟨hlt, fun j hj h6 h7 => ?_⟩ (by omega) ⟨?_, ⟨rfl, trivial⟩, rfl, rfl⟩
      · by_cases ej : j = k
        · subst ej; exact h5
        · exact hz j (by omega) h6 h7
      have e := step_i hlt hf'
      ((repeat ((conv => whnf); first | refine ⟨e, ?_⟩ | refine ⟨rfl, ?_⟩)); trivial)
    have h5 : k = r.fr.length := by rw [ltI_f] at h4; omega
    subst h5
    have hlike : likeL r.fr (ss.drop n) = true := likeL_yes (by simp; omega) fun j hj hs3 => by
      have := hz j hj (by simp at hs3; omega) hj
      simpa using this
    rw [hlike, Bool.true_and]
    ((repeat ((conv => whnf); first | refine brT ?_ | refine brF ?_)); conv => whnf)
    refine ⟨true, by kernel_rfl, ?_⟩
    ((repeat ((conv => whnf); first | refine brT ?_ | refine brF ?_)); conv => whnf)
    refine ⟨_, placingOf_spec r.place, ?_⟩
    have hpl : (eqI r.place 1 = true) ∨ (eqI r.place 1 = false ∧ eqI r.place 2 = true) ∨ (eqI r.place 1 = false ∧ eqI r.place 2 = false) := by
      cases eqI r.place 1 <;> cases eqI r.place 2 <;> simp
    rcases hpl with p1 | ⟨p1, p2⟩ | ⟨p1, p2⟩
    · rw [show plT r.place = 182 by unfold plT; rw [p1], show plB r.place n (n + r.fr.length) ss.length = eqI n 0 by unfold plB; rw [p1]]
      ((repeat ((conv => whnf); first | refine brT ?_ | refine brF ?_)); conv => whnf)
      intro _
      ((repeat ((conv => whnf); first | refine brT ?_ | refine brF ?_)); conv => whnf)
      intro _
      ((repeat ((conv => whnf); first | refine brT ?_ | refine brF ?_)); conv => whnf)
      refine ⟨0, _, rfl, ?_⟩
      ((repeat ((conv => whnf); first | refine brT ?_ | refine brF ?_)); conv => whnf)
      refine ⟨0, _, .st [], rfl, rfl, rfl, ?_⟩
      ((repeat ((conv => whnf); first | refine brT ?_ | refine brF ?_)); conv => whnf)
      refine ⟨_, allows1_spec _ _ _, ?_⟩
      ((repeat ((conv => whnf); first | refine brT ?_ | refine brF ?_)); conv => whnf)
      exact fin rfl
    · rw [show plT r.place = 183 by unfold plT; rw [p1, p2], show plB r.place n (n + r.fr.length) ss.length = eqI (n + r.fr.length) ss.length by unfold plB; rw [p1, p2]]
      ((repeat ((conv => whnf); first | refine brT ?_ | refine brF ?_)); conv => whnf)
      intro _
      ((repeat ((conv => whnf); first | refine brT ?_ | refine brF ?_)); conv => whnf)
      intro _
      ((repeat ((conv => whnf); first | refine brT ?_ | refine brF ?_)); conv => whnf)
      refine ⟨2, _, rfl, ?_⟩
      ((repeat ((conv => whnf); first | refine brT ?_ | refine brF ?_)); conv => whnf)
      refine ⟨2, _, .st [], rfl, rfl, rfl, ?_⟩
      ((repeat ((conv => whnf); first | refine brT ?_ | refine brF ?_)); conv => whnf)
      refine ⟨_, allows2_spec _ _ _, ?_⟩
      ((repeat ((conv => whnf); first | refine brT ?_ | refine brF ?_)); conv => whnf)
      exact fin (by rw [List.length_map, List.length_map, hend])
    · rw [show plT r.place = 184 by unfold plT; rw [p1, p2], show plB r.place n (n + r.fr.length) ss.length = true by unfold plB; rw [p1, p2]]
      ((repeat ((conv => whnf); first | refine brT ?_ | refine brF ?_)); conv => whnf)
      intro _
      ((repeat ((conv => whnf); first | refine brT ?_ | refine brF ?_)); conv => whnf)
      intro _
      ((repeat ((conv => whnf); first | refine brT ?_ | refine brF ?_)); conv => whnf)
      refine ⟨4, _, rfl, ?_⟩
      ((repeat ((conv => whnf); first | refine brT ?_ | refine brF ?_)); conv => whnf)
      refine ⟨4, _, .st [], rfl, rfl, rfl, ?_⟩
      ((repeat ((conv => whnf); first | refine brT ?_ | refine brF ?_)); conv => whnf)
      refine ⟨_, allows0_spec _ _ _, ?_⟩
      ((repeat ((conv => whnf); first | refine brT ?_ | refine brF ?_)); conv => whnf)
      exact fin rfl
  · rw [notB_f] at g1
    rw [show (eqI r.sex 0 || eqI r.sex (sexAt e ss n)) = true by rw [g1]; rfl, Bool.true_and]
    ((repeat ((conv => whnf); first | refine brT ?_ | refine brF ?_)); conv => whnf)
    intro _
    rw [List.length_map]
    ((repeat ((conv => whnf); first | refine brT ?_ | refine brF ?_)); conv => whnf)
    refine loop_rule (α := Nat) (fun k => [(44, .int .i64 (k : Int))]) (fun _ => [.box (typLV e ss)]) (fun k => r.fr.length - k) (fun k => k ≤ r.fr.length ∧ ∀ j (hj : j < k) (h3 : n + j < ss.length) (h4 : j < r.fr.length), likeB ss[n + j] r.fr[j] = true) 0 ⟨Nat.zero_le _, fun _ h => absurd h (Nat.not_lt_zero _)⟩ ?_ ?_
    · refine ⟨?_, ⟨rfl, trivial⟩, rfl, rfl⟩
      ((repeat ((conv => whnf); refine ⟨rfl, ?_⟩)); trivial)
    rintro k ⟨hk, hz⟩
    ((repeat ((conv => whnf); first | refine brT ?_ | refine brF ?_)); conv => whnf)
    (refine ⟨fun h4 => ?_, fun h4 => ?_⟩ <;> rw [h4])
    · have hlt : k < r.fr.length := by rw [ltI_t] at h4; omega
      have hlt2 : n + k < ss.length := by omega
      ((repeat ((conv => whnf); first | refine brT ?_ | refine brF ?_)); conv => whnf)
      refine ⟨k, r.fr[k].lv, rfl, by simp [hlt], rfl, ?_⟩
      ((repeat ((conv => whnf); first | refine brT ?_ | refine brF ?_)); conv => whnf)
      refine ⟨true, by kernel_rfl, ?_⟩
      ((repeat ((conv => whnf); first | refine brT ?_ | refine brF ?_)); conv => whnf)
      rw [show IntKind.i64.wrap ((n : Int) + (k : Int)) = ((n + k : Nat) : Int) by rw [wrap64 (by omega) (by omega)]; omega]
      refine ⟨n + k, ss[n + k].lv, rfl, by simp [hlt2], rfl, ?_⟩
      ((repeat ((conv => whnf); first | refine brT ?_ | refine brF ?_)); conv => whnf)
      refine ⟨_, isStepLike_spec ss[n + k] r.fr[k], ?_⟩
      ((repeat ((conv => whnf); first | refine brT ?_ | refine brF ?_)); conv => whnf)
      (refine ⟨fun h5 => ?_, fun h5 => ?_⟩ <;> rw [h5])
      · rw [notB_t] at h5
        ((repeat ((conv => whnf); first | refine brT ?_ | refine brF ?_)); conv => whnf)
        refine fin ?_
        rw [likeL_no (k := k) (ss := ss.drop n) hlt (by simp; omega) (by simpa using h5)]; simp
      rw [notB_f] at h5
      ((repeat ((conv => whnf); first | refine brT ?_ | refine brF ?_)); conv => whnf)
      refine round_end (k + 1) ⟨hlt, fun j hj h6 h7 => ?_⟩ (by omega) ⟨?_, ⟨rfl, trivial⟩, rfl, rfl⟩
      · by_cases ej : j = k
        · subst ej; exact h5
        · exact hz j (by omega) h6 h7
      have e := step_i hlt hf'
      ((repeat ((conv => whnf); first | refine ⟨e, ?_⟩ | refine ⟨rfl, ?_⟩)); trivial)
    have h5 : k = r.fr.length := by rw [ltI_f] at h4; omega
    subst h5
    have hlike : likeL r.fr (ss.drop n) = true := likeL_yes (by simp; omega) fun j hj hs3 => by
      have := hz j hj (by simp at hs3; omega) hj
      simpa using this
    rw [hlike, Bool.true_and]
    ((repeat ((conv => whnf); first | refine brT ?_ | refine brF ?_)); conv => whnf)
    refine ⟨true, by kernel_rfl, ?_⟩
    ((repeat ((conv => whnf); first | refine brT ?_ | refine brF ?_)); conv => whnf)
    refine ⟨_, placingOf_spec r.place, ?_⟩
    have hpl : (eqI r.place 1 = true) ∨ (eqI r.place 1 = false ∧ eqI r.place 2 = true) ∨ (eqI r.place 1 = false ∧ eqI r.place 2 = false) := by
      cases eqI r.place 1 <;> cases eqI r.place 2 <;> simp
    rcases hpl with p1 | ⟨p1, p2⟩ | ⟨p1, p2⟩
    · rw [show plT r.place = 182 by unfold plT; rw [p1], show plB r.place n (n + r.fr.length) ss.length = eqI n 0 by unfold plB; rw [p1]]
      ((repeat ((conv => whnf); first | refine brT ?_ | refine brF ?_)); conv => whnf)
      intro _
      ((repeat ((conv => whnf); first | refine brT ?_ | refine brF ?_)); conv => whnf)
      intro _
      ((repeat ((conv => whnf); first | refine brT ?_ | refine brF ?_)); conv => whnf)
      refine ⟨0, _, rfl, ?_⟩
      ((repeat ((conv => whnf); first | refine brT ?_ | refine brF ?_)); conv => whnf)
      refine ⟨0, _, .st [], rfl, rfl, rfl, ?_⟩
      ((repeat ((conv => whnf); first | refine brT ?_ | refine brF ?_)); conv => whnf)
      refine ⟨_, allows1_spec _ _ _, ?_⟩
      ((repeat ((conv => whnf); first | refine brT ?_ | refine brF ?_)); conv => whnf)
      exact fin rfl
    · rw [show plT r.place = 183 by unfold plT; rw [p1, p2], show plB r.place n (n + r.fr.length) ss.length = eqI (n + r.fr.length) ss.length by unfold plB; rw [p1, p2]]
      ((repeat ((conv => whnf); first | refine brT ?_ | refine brF ?_)); conv => whnf)
      intro _
      ((repeat ((conv => whnf); first | refine brT ?_ | refine brF ?_)); conv => whnf)
      intro _
      ((repeat ((conv => whnf); first | refine brT ?_ | refine brF ?_)); conv => whnf)
      refine ⟨2, _, rfl, ?_⟩
      ((repeat ((conv => whnf); first | refine brT ?_ | refine brF ?_)); conv => whnf)
      refine ⟨2, _, .st [], rfl, rfl, rfl, ?_⟩
      ((repeat ((conv => whnf); first | refine brT ?_ | refine brF ?_)); conv => whnf)
      refine ⟨_, allows2_spec _ _ _, ?_⟩
      ((repeat ((conv => whnf); first | refine brT ?_ | refine brF ?_)); conv => whnf)
      exact fin (by rw [List.length_map, List.length_map, hend])
    · rw [show plT r.place = 184 by unfold plT; rw [p1, p2], show plB r.place n (n + r.fr.length) ss.length = true by unfold plB; rw [p1, p2]]
      ((repeat ((conv => whnf); first | refine brT ?_ | refine brF ?_)); conv => whnf)
      intro _
      ((repeat ((conv => whnf); first | refine brT ?_ | refine brF ?_)); conv => whnf)
      intro _
      ((repeat ((conv => whnf); first | refine brT ?_ | refine brF ?_)); conv => whnf)
      refine ⟨4, _, rfl, ?_⟩
      ((repeat ((conv => whnf); first | refine brT ?_ | refine brF ?_)); conv => whnf)
      refine ⟨4, _, .st [], rfl, rfl, rfl, ?_⟩
      ((repeat ((conv => whnf); first | refine brT ?_ | refine brF ?_)); conv => whnf)
      refine ⟨_, allows0_spec _ _ _, ?_⟩
      ((repeat ((conv => whnf); first | refine brT ?_ | refine brF ?_)); conv => whnf)
      exact fin rfl
end Go.Proofs.Ytpfipmjmblgjfaa
