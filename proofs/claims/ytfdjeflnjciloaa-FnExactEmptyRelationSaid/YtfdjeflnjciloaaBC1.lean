/- Contracts of functions of the program and of its model, told over readings. -/
import Derived.Test.YtfdjeflnjciloaaBB4
namespace Go.Proofs.Ytfdjeflnjciloaa
open Go.Lg
set_option maxHeartbeats 1600000
set_option maxRecDepth 10000
set_option linter.unusedVariables false
set_option linter.unusedSimpArgs false

/-- The relation in which nobody is related, among n numbers. -/
def empN (n : Int) : Nat := if 0 ≤ n ∧ n ≤ 40 then n.toNat else 0
def empR (k : Nat) : List (List Int) := List.replicate k []
theorem empN_le (n : Int) : empN n ≤ 40 := by unfold empN; split <;> omega
theorem empN_ok {n : Int} (h0 : 0 ≤ n) (h1 : n ≤ 40) : n = (empN n : Int) := by unfold empN; rw [if_pos ⟨h0, h1⟩]; omega
theorem empN_no {n : Int} (h : ¬ (0 ≤ n ∧ n ≤ 40)) : empN n = 0 := by unfold empN; rw [if_neg h]
theorem lineN_false (n : Nat) : lineN (List.replicate n false) = [] := by
  unfold lineN lineTo
  rw [List.map_eq_nil_iff, List.filter_eq_nil_iff]
  intro i hi
  simp [List.getD_eq_getElem?_getD, List.getElem?_replicate]
  split <;> simp
theorem blank_lines (n k : Nat) : (blank n k).map lineN = empR k := by
  unfold blank empR
  rw [List.map_replicate, lineN_false]
theorem listN_zero : listN 0 = [] := by decide

theorem isSize_ok {n : Int} (h : notB (leI 0 n && leI n 40) = false) : 0 ≤ n ∧ n ≤ 40 := by
  rw [notB_f, Bool.and_eq_true] at h
  exact ⟨leI_t.1 h.1, leI_t.1 h.2⟩
theorem isSize_no {n : Int} (h : notB (leI 0 n && leI n 40) = true) : ¬ (0 ≤ n ∧ n ≤ 40) := by
  rw [notB_t] at h
  rintro ⟨a, b⟩
  rw [leI_t.2 a, leI_t.2 b] at h
  cases h

theorem specEmpty_h (n : Int) : HSpec env.P 73 [.int .i64 n] [] (relHS (empN n : Nat) 0 ((empR (empN n)).map rowOw).length) [.tree 29 1 ((empR (empN n)).map rowOw)] := by
  refine HSpec_of_code (E := env.x [155, 154] 0) env_ok.x (fn := Try.f73) Try.func73 rfl Try.call73 _ _ _ _ ?_
  ((repeat ((conv => whnf); first | refine brT ?_ | refine brF ?_)); conv => whnf)
  refine ⟨_, l1In_spec n 0 40, ?_⟩
  ((repeat ((conv => whnf); first | refine brT ?_ | refine brF ?_)); conv => whnf)
  (refine ⟨fun h => ?_, fun h => ?_⟩ <;> rw [h])
  · ((repeat ((conv => whnf); first | refine brT ?_ | refine brF ?_)); conv => whnf)
    rw [empN_no (isSize_no h)]
    exact ⟨[relHS 0 0 0], rfl, rfl, .nl [.tmp 0 [1] true 29 1] [.old 1] ⟨⟨rfl, rfl, trivial⟩, ⟨rfl, rfl, trivial⟩, rfl⟩⟩
  · obtain ⟨h0, h1⟩ := isSize_ok h
    have hn := empN_ok h0 h1
    have hk := empN_le n
    generalize empN n = k at hn hk
    subst hn
    ((repeat ((conv => whnf); first | refine brT ?_ | refine brF ?_)); conv => whnf)
    refine ⟨[], _, _, _, _, l2Blank_h k hk, rfl, rfl, rfl, trivial, ?_⟩
    ((repeat ((conv => whnf); first | refine brT ?_ | refine brF ?_)); conv => whnf)
    refine ⟨[], _, _, _, _, l2Of_h (blank k k) (by simp [blank]; omega) (by intro l hl; rw [List.eq_of_mem_replicate hl]; simp; omega), rfl, ?_⟩
    ((repeat ((conv => whnf); first | refine brT ?_ | refine brF ?_)); conv => whnf)
    refine ⟨rfl, _, dms_lines _, ?_⟩
    ((repeat ((conv => whnf); first | refine brT ?_ | refine brF ?_)); conv => whnf)
    refine ⟨rfl, rfl, ⟨rfl, flatTs_rows _, trivial⟩, ?_⟩
    ((repeat ((conv => whnf); first | refine brT ?_ | refine brF ?_)); conv => whnf)
    have e : (blank k k).length = k := by simp [blank]
    refine ⟨[relHS (blank k k).length 0 (((blank k k).map lineN).map rowOw).length], by rw [blank_lines, e]; rfl, rfl, .inr ⟨[.old 2], ⟨rfl, by rw [blank_lines, e]; rfl, trivial⟩, ⟨rfl, congrArg (Blk.tree 29 1) (by rw [blank_lines]), trivial⟩, rfl⟩⟩

theorem implEmpty_h (n : Int) : HSpec env.P 74 [.int .i64 n] [] (relHS (empN n : Nat) 0 ((empR (empN n)).map rowOw).length) [.tree 29 1 ((empR (empN n)).map rowOw)] := by
  refine HSpec_of_code (E := env.x [111] 0) env_ok.x (fn := Try.f74) Try.func74 rfl Try.call74 _ _ _ _ ?_
  ((repeat ((conv => whnf); first | refine brT ?_ | refine brF ?_)); conv => whnf)
  refine ⟨_, isSize_spec n, ?_⟩
  ((repeat ((conv => whnf); first | refine brT ?_ | refine brF ?_)); conv => whnf)
  (refine ⟨fun h => ?_, fun h => ?_⟩ <;> rw [h])
  · ((repeat ((conv => whnf); first | refine brT ?_ | refine brF ?_)); conv => whnf)
    rw [empN_no (isSize_no h)]
    exact ⟨[relHS 0 0 0], rfl, rfl, .nl [.tmp 0 [1] true 29 1] [.old 1] ⟨⟨rfl, rfl, trivial⟩, ⟨rfl, rfl, trivial⟩, rfl⟩⟩
  · obtain ⟨h0, h1⟩ := isSize_ok h
    have hn := empN_ok h0 h1
    have hk := empN_le n
    generalize empN n = k at hn hk
    subst hn
    ((repeat ((conv => whnf); first | refine brT ?_ | refine brF ?_)); conv => whnf)
    refine ⟨k, rfl, rfl, by show 8 * k ≤ _; omega, by unfold Go.maxLen; omega, rfl, by decide, ?_⟩
    ((repeat ((conv => whnf); first | refine brT ?_ | refine brF ?_)); conv => whnf)
    have ez : List.replicate k (LV.int .u64 0) = (List.replicate k 0).map uLV := by simp [uLV]
    rw [ez]
    refine ⟨[], _, _, _, _, relationOfSets_h (List.replicate k 0) (by intro s hs; rw [List.eq_of_mem_replicate hs]; decide) (by simp; omega) (by simp [Go.maxLen]; omega), rfl, ?_⟩
    ((repeat ((conv => whnf); first | refine brT ?_ | refine brF ?_)); conv => whnf)
    refine ⟨by simp, ?_⟩
    ((repeat ((conv => whnf); first | refine brT ?_ | refine brF ?_)); conv => whnf)
    refine ⟨rfl, rfl, ⟨rfl, flatTs_rows _, trivial⟩, ?_⟩
    ((repeat ((conv => whnf); first | refine brT ?_ | refine brF ?_)); conv => whnf)
    have e : (List.replicate k 0).length = k := by simp
    have e1 : (List.replicate k 0).map listN = empR k := by unfold empR; rw [List.map_replicate, listN_zero]
    refine ⟨[relHS (List.replicate k 0).length 0 (((List.replicate k 0).map listN).map rowOw).length], by rw [e1, e]; rfl, rfl, .inr ⟨[.old 2], ⟨rfl, by rw [e1, e]; rfl, trivial⟩, ⟨rfl, congrArg (Blk.tree 29 1) (by rw [e1]), trivial⟩, rfl⟩⟩

theorem empR_flat (k : Nat) : tot (empR k) = 0 := by
  unfold empR
  induction k with
  | zero => rfl
  | succ k ih => rw [List.replicate_succ, tot_cons, ih]; rfl
theorem empR_mark (j : Int) : ∀ k : Nat, markRows j (empR k) = empR k := by
  intro k
  unfold empR
  induction k generalizing j with
  | zero => rfl
  | succ k ih => rw [List.replicate_succ]; simp only [markRows]; rw [ih]; rfl

theorem law_emptyRelation (n : Int) : FSpec env.P 13 [.int .i64 n] (.bool true) := by
  refine FSpec_of_code (E := env.x [73, 74, 75] 0) env_ok.x (fn := Try.f13) Try.func13 rfl Try.call13 _ _ ?_
  have hk := empN_le n
  ((repeat ((conv => whnf); first | refine brT ?_ | refine brF ?_)); conv => whnf)
  refine ⟨[], _, _, _, _, specEmpty_h n, rfl, rfl, rfl, trivial, ?_⟩
  ((repeat ((conv => whnf); first | refine brT ?_ | refine brF ?_)); conv => whnf)
  refine ⟨[], _, _, _, _, implEmpty_h n, rfl, rfl, rfl, trivial, ?_⟩
  ((repeat ((conv => whnf); first | refine brT ?_ | refine brF ?_)); conv => whnf)
  refine ⟨rfl, _, dms_rows _, ?_⟩
  ((repeat ((conv => whnf); first | refine brT ?_ | refine brF ?_)); conv => whnf)
  refine ⟨rfl, _, dms_rows _, ?_⟩
  ((repeat ((conv => whnf); first | refine brT ?_ | refine brF ?_)); conv => whnf)
  refine ⟨_, eqRelation_spec _ _ _ _, ?_⟩
  rw [eqRel_refl]
  ((repeat ((conv => whnf); first | refine brT ?_ | refine brF ?_)); conv => whnf)
  rw [show notB true = false by simp [notB]]
  ((repeat ((conv => whnf); first | refine brT ?_ | refine brF ?_)); conv => whnf)
  have ht := empR_flat (empN n)
  refine ⟨[2], _, _, _, _, markRelation_spec _ _ _ rfl 1 (by omega) (by omega), rfl, rfl, rfl, trivial, ?_⟩
  ((repeat ((conv => whnf); first | refine brT ?_ | refine brF ?_)); conv => whnf)
  refine ⟨by simp [markRows_len], _, dms_rows _, ?_⟩
  ((repeat ((conv => whnf); first | refine brT ?_ | refine brF ?_)); conv => whnf)
  refine ⟨_, heldRelation_spec _ (empR (empN n)) 1 (by omega) (by omega), ?_⟩
  ((repeat ((conv => whnf); first | refine brT ?_ | refine brF ?_)); conv => whnf)
  rw [show ltI (1 + (tot (empR (empN n)) : Int)) 0 = false by rw [ltI_f]; omega]
  ((repeat ((conv => whnf); first | refine brT ?_ | refine brF ?_)); conv => whnf)
  rw [eqI_refl, show notB true = false by simp [notB]]
  ((repeat ((conv => whnf); first | refine brT ?_ | refine brF ?_)); conv => whnf)
  refine ⟨[], _, _, _, _, implEmpty_h n, rfl, rfl, rfl, trivial, ?_⟩
  ((repeat ((conv => whnf); first | refine brT ?_ | refine brF ?_)); conv => whnf)
  refine ⟨rfl, _, dms_rows _, ?_⟩
  ((repeat ((conv => whnf); first | refine brT ?_ | refine brF ?_)); conv => whnf)
  refine ⟨rfl, _, dms_rows _, ?_⟩
  ((repeat ((conv => whnf); first | refine brT ?_ | refine brF ?_)); conv => whnf)
  refine ⟨_, eqRelation_spec _ _ _ _, ?_⟩
  rw [eqRel_refl]
  ((repeat ((conv => whnf); first | refine brT ?_ | refine brF ?_)); conv => whnf)
  rw [show notB true = false by simp [notB]]
  ((repeat ((conv => whnf); first | refine brT ?_ | refine brF ?_)); conv => whnf)
  refine ⟨by simp [markRows_len], _, dms_rows _, ?_⟩
  ((repeat ((conv => whnf); first | refine brT ?_ | refine brF ?_)); conv => whnf)
  refine ⟨_, heldRelation_spec _ (empR (empN n)) 1 (by omega) (by omega), ?_⟩
  ((repeat ((conv => whnf); first | refine brT ?_ | refine brF ?_)); conv => whnf)
  rw [show ltI (1 + (tot (empR (empN n)) : Int)) 0 = false by rw [ltI_f]; omega]
  ((repeat ((conv => whnf); first | refine brT ?_ | refine brF ?_)); conv => whnf)
  rw [eqI_refl, show notB true = false by simp [notB]]
  ((repeat ((conv => whnf); first | refine brT ?_ | refine brF ?_)); conv => whnf)
  exact fin rfl
end Go.Proofs.Ytfdjeflnjciloaa
