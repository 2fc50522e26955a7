/- Contracts of functions of the program and of its model, told over readings. -/
import Derived.Test.YtpfipmjmblgjfaaHWGD
import Derived.Test.YtpfipmjmblgjfaaHWGB
namespace Go.Proofs.Ytpfipmjmblgjfaa
open Go.Lg
set_option maxHeartbeats 3200000
set_option maxRecDepth 10000
set_option linter.unusedVariables false
set_option linter.unusedSimpArgs false

theorem l4Fits_spec (r : Rul) (e : Int) (ss : List Pr) (i : Int) : FSpec env.P 174 [r.lv, typLV e ss, .int .i64 i] (.bool (fitsB r (egoT e ss) ss i)) := by
  refine FSpec_of_code env_ok (fn := Try.f174) Try.func174 rfl Try.call174 _ _ ?_
  ((repeat ((conv => whnf); first | refine brT ?_ | refine brF ?_)); conv => whnf)
  intro hf
  rw [List.length_map] at hf ⊢
  ((repeat ((conv => whnf); first | refine brT ?_ | refine brF ?_)); conv => whnf)
  (refine ⟨fun h1 => ?_, fun h1 => ?_⟩ <;> rw [h1])
  · ((repeat ((conv => whnf); first | refine brT ?_ | refine brF ?_)); conv => whnf)
    exact fin (by unfold fitsB; rw [show leI 0 i = false by rw [leI_f]; rw [ltI_t] at h1; omega]; rfl)
  rw [ltI_f] at h1
  ((repeat ((conv => whnf); first | refine brT ?_ | refine brF ?_)); conv => whnf)
  intro hs
  rw [List.length_map] at hs ⊢
  have hs' := hs
  have hf' := hf
  unfold Go.maxLen at hs hf
  ((repeat ((conv => whnf); first | refine brT ?_ | refine brF ?_)); conv => whnf)
  rw [show IntKind.i64.wrap ((ss.length : Int) - (r.fr.length : Int)) = (ss.length : Int) - r.fr.length from wrap64 (by omega) (by omega)]
  (refine ⟨fun h2 => ?_, fun h2 => ?_⟩ <;> rw [h2])
  · ((repeat ((conv => whnf); first | refine brT ?_ | refine brF ?_)); conv => whnf)
    exact fin (by unfold fitsB; rw [show leI i ((ss.length : Int) - r.fr.length) = false by rw [leI_f]; rw [ltI_t] at h2; omega, Bool.and_false]; rfl)
  rw [ltI_f] at h2
  obtain ⟨n, rfl⟩ : ∃ n : Nat, i = (n : Int) := ⟨i.toNat, by omega⟩
  have h12 : (leI 0 (n : Int) && leI (n : Int) ((ss.length : Int) - r.fr.length)) = true := by rw [Bool.and_eq_true, leI_t, leI_t]; omega
  have hfit : fitsB r (egoT e ss) ss (n : Int) = ((eqI r.sex 0 || eqI r.sex (sexAt (egoT e ss) ss n)) && (likeL r.fr (ss.drop n) && plB r.place n (n + r.fr.length) ss.length)) := by
    unfold fitsB; rw [h12, Bool.true_and, Int.toNat_natCast]
  rw [hfit]
  have hnl : n ≤ ss.length := by omega
  have hend : IntKind.i64.wrap ((n : Int) + (r.fr.length : Int)) = (n : Int) + r.fr.length := wrap64 (by omega) (by omega)
  clear hfit h12
  ((repeat ((conv => whnf); first | refine brT ?_ | refine brF ?_)); conv => whnf)
  (refine ⟨fun p1 => ?_, fun p1 => ?_⟩ <;> rw [p1])
  · ((repeat ((conv => whnf); first | refine brT ?_ | refine brF ?_)); conv => whnf)
    (refine ⟨fun p2 => ?_, fun p2 => ?_⟩ <;> rw [p2])
    · rw [notB_t] at p2
      ((repeat ((conv => whnf); first | refine brT ?_ | refine brF ?_)); conv => whnf)
      exact fin (by rw [show plB r.place n (n + r.fr.length) ss.length = false by unfold plB; rw [p1]; exact p2]; simp)
    rw [notB_f] at p2
    have p3 : eqI r.place 2 = false := by rw [eqI_t] at p1; rw [eqI_f]; omega
    rw [show plB r.place n (n + r.fr.length) ss.length = true by unfold plB; rw [p1]; exact p2, Bool.and_true]
    ((repeat ((conv => whnf); first | refine brT ?_ | refine brF ?_)); conv => whnf)
    rw [p3]
    ((repeat ((conv => whnf); first | refine brT ?_ | refine brF ?_)); conv => whnf)
    refine ⟨_, l3Ego_spec e ss, ?_⟩
    ((repeat ((conv => whnf); first | refine brT ?_ | refine brF ?_)); conv => whnf)
    (refine ⟨fun q1 => ?_, fun q1 => ?_⟩ <;> rw [q1])
    · have hn0 : 0 < n := by rw [ltI_t] at q1; omega
      have hm : n - 1 < ss.length := by omega
      have hsx : sexAt (egoT e ss) ss n = sxOf (ss[n - 1]'hm).a := by
        obtain ⟨m, rfl⟩ : ∃ m, n = m + 1 := ⟨n - 1, by omega⟩
        have hm2 : m < ss.length := by omega
        simp [sexAt, hm2]
      rw [hsx]
      ((repeat ((conv => whnf); first | refine brT ?_ | refine brF ?_)); conv => whnf)
      rw [show IntKind.i64.wrap ((n : Int) - 1) = ((n - 1 : Nat) : Int) by rw [wrap64 (by omega) (by omega)]; omega]
      refine ⟨n - 1, (ss[n - 1]'hm).lv, rfl, by simp [hm], rfl, ?_⟩
      ((repeat ((conv => whnf); first | refine brT ?_ | refine brF ?_)); conv => whnf)
      refine ⟨_, l3Sex_spec (ss[n - 1]'hm).a, ?_⟩
      ((repeat ((conv => whnf); first | refine brT ?_ | refine brF ?_)); conv => whnf)
      (refine ⟨fun g1 => ?_, fun g1 => ?_⟩ <;> rw [g1])
      · rw [notB_t] at g1
        ((repeat ((conv => whnf); first | refine brT ?_ | refine brF ?_)); conv => whnf)
        (refine ⟨fun g2 => ?_, fun g2 => ?_⟩ <;> rw [g2])
        · rw [notB_t] at g2
          ((repeat ((conv => whnf); first | refine brT ?_ | refine brF ?_)); conv => whnf)
          exact fin (by rw [g1, g2]; rfl)
        rw [notB_f] at g2
        rw [show (eqI r.sex 0 || eqI r.sex (sxOf (ss[n - 1]'hm).a)) = true by rw [g2, Bool.or_true], Bool.true_and]
        ((repeat ((conv => whnf); first | refine brT ?_ | refine brF ?_)); conv => whnf)
        intro _
        rw [List.length_map]
        ((repeat ((conv => whnf); first | refine brT ?_ | refine brF ?_)); conv => whnf)
        refine loop_rule (α := Nat) (fun k => [(71, .int .i64 (k : Int))]) (fun _ => [.box r.lv, .box (typLV e ss)]) (fun k => r.fr.length - k) (fun k => k ≤ r.fr.length ∧ ∀ j (hj : j < k) (h3 : n + j < ss.length) (h4 : j < r.fr.length), likeB ss[n + j] r.fr[j] = true) 0 ⟨Nat.zero_le _, fun _ h => absurd h (Nat.not_lt_zero _)⟩ ?_ ?_
        · refine ⟨?_, ⟨rfl, rfl, trivial⟩, rfl, rfl⟩
          ((repeat ((conv => whnf); refine ⟨rfl, ?_⟩)); trivial)
        rintro k ⟨hk, hz⟩
        ((repeat ((conv => whnf); first | refine brT ?_ | refine brF ?_)); conv => whnf)
        (refine ⟨fun h4 => ?_, fun h4 => ?_⟩ <;> rw [h4])
        · have hlt : k < r.fr.length := by rw [ltI_t] at h4; omega
          have hlt2 : n + k < ss.length := by omega
          ((repeat ((conv => whnf); first | refine brT ?_ | refine brF ?_)); conv => whnf)
          refine ⟨k, r.fr[k].lv, rfl, by simp [hlt], rfl, ?_⟩
          ((repeat ((conv => whnf); first | refine brT ?_ | refine brF ?_)); conv => whnf)
          rw [show IntKind.i64.wrap ((n : Int) + (k : Int)) = ((n + k : Nat) : Int) by rw [wrap64 (by omega) (by omega)]; omega]
          refine ⟨n + k, ss[n + k].lv, rfl, by simp [hlt2], rfl, ?_⟩
          ((repeat ((conv => whnf); first | refine brT ?_ | refine brF ?_)); conv => whnf)
          have no : likeB ss[n + k] r.fr[k] = false → false = (likeL r.fr (ss.drop n)) := fun h5 => by
            rw [likeL_no (k := k) (ss := ss.drop n) hlt (by simp; omega) (by simpa using h5)]
          have e := step_i hlt hf'
          have next : likeB ss[n + k] r.fr[k] = true → ∀ j (hj : j < k + 1) (h3 : n + j < ss.length) (h4 : j < r.fr.length), likeB ss[n + j] r.fr[j] = true := fun h5 j hj h6 h7 => by
            by_cases ej : j = k
            · subst ej; exact h5
            · exact hz j (by omega) h6 h7
          (refine ⟨fun h5 => ?_, fun h5 => ?_⟩ <;> rw [h5])
          · rw [notB_t, eqI_comm] at h5
            ((repeat ((conv => whnf); first | refine brT ?_ | refine brF ?_)); conv => whnf)
            exact fin (no (by unfold likeB; rw [h5]; rfl))
          rw [notB_f, eqI_comm] at h5
          ((repeat ((conv => whnf); first | refine brT ?_ | refine brF ?_)); conv => whnf)
          (refine ⟨fun h6 => ?_, fun h6 => ?_⟩ <;> rw [h6])
          · rw [notB_t] at h6
            ((repeat ((conv => whnf); first | refine brT ?_ | refine brF ?_)); conv => whnf)
            (refine ⟨fun h7 => ?_, fun h7 => ?_⟩ <;> rw [h7])
            · rw [notB_t, eqI_comm] at h7
              ((repeat ((conv => whnf); first | refine brT ?_ | refine brF ?_)); conv => whnf)
              exact fin (no (by unfold likeB; rw [h5, h6, h7]; rfl))
            rw [notB_f, eqI_comm] at h7
            ((repeat ((conv => whnf); first | refine brT ?_ | refine brF ?_)); conv => whnf)
            refine round_end (k + 1) ⟨hlt, next (by unfold likeB; rw [h5, h6, h7]; rfl)⟩ (by omega) ⟨?_, ⟨rfl, rfl, trivial⟩, rfl, rfl⟩
            ((repeat ((conv => whnf); first | refine ⟨e, ?_⟩ | refine ⟨rfl, ?_⟩)); trivial)
          rw [notB_f] at h6
          ((repeat ((conv => whnf); first | refine brT ?_ | refine brF ?_)); conv => whnf)
          refine round_end (k + 1) ⟨hlt, next (by unfold likeB; rw [h5, h6]; rfl)⟩ (by omega) ⟨?_, ⟨rfl, rfl, trivial⟩, rfl, rfl⟩
          ((repeat ((conv => whnf); first | refine ⟨e, ?_⟩ | refine ⟨rfl, ?_⟩)); trivial)
        have h5 : k = r.fr.length := by rw [ltI_f] at h4; omega
        subst h5
        ((repeat ((conv => whnf); first | refine brT ?_ | refine brF ?_)); conv => whnf)
        refine fin ?_
        symm
        exact likeL_yes (by simp; omega) fun j hj hs3 => by
          have := hz j hj (by simp at hs3; omega) hj
          simpa using this
      · rw [notB_f] at g1
        rw [show (eqI r.sex 0 || eqI r.sex (sxOf (ss[n - 1]'hm).a)) = true by rw [g1]; rfl, Bool.true_and]
        ((repeat ((conv => whnf); first | refine brT ?_ | refine brF ?_)); conv => whnf)
        intro _
        rw [List.length_map]
        ((repeat ((conv => whnf); first | refine brT ?_ | refine brF ?_)); conv => whnf)
        refine loop_rule (α := Nat) (fun k => [(71, .int .i64 (k : Int))]) (fun _ => [.box r.lv, .box (typLV e ss)]) (fun k => r.fr.length - k) (fun k => k ≤ r.fr.length ∧ ∀ j (hj : j < k) (h3 : n + j < ss.length) (h4 : j < r.fr.length), likeB ss[n + j] r.fr[j] = true) 0 ⟨Nat.zero_le _, fun _ h => absurd h (Nat.not_lt_zero _)⟩ ?_ ?_
        · refine ⟨?_, ⟨rfl, rfl, trivial⟩, rfl, rfl⟩
          ((repeat ((conv => whnf); refine ⟨rfl, ?_⟩)); trivial)
        rintro k ⟨hk, hz⟩
        ((repeat ((conv => whnf); first | refine brT ?_ | refine brF ?_)); conv => whnf)
        (refine ⟨fun h4 => ?_, fun h4 => ?_⟩ <;> rw [h4])
        · have hlt : k < r.fr.length := by rw [ltI_t] at h4; omega
          have hlt2 : n + k < ss.length := by omega
          ((repeat ((conv => whnf); first | refine brT ?_ | refine brF ?_)); conv => whnf)
          refine ⟨k, r.fr[k].lv, rfl, by simp [hlt], rfl, ?_⟩
          ((repeat ((conv => whnf); first | refine brT ?_ | refine brF ?_)); conv => whnf)
          rw [show IntKind.i64.wrap ((n : Int) + (k : Int)) = ((n + k : Nat) : Int) by rw [wrap64 (by omega) (by omega)]; omega]
          refine ⟨n + k, ss[n + k].lv, rfl, by simp [hlt2], rfl, ?_⟩
          ((repeat ((conv => whnf); first | refine brT ?_ | refine brF ?_)); conv => whnf)
          have no : likeB ss[n + k] r.fr[k] = false → false = (likeL r.fr (ss.drop n)) := fun h5 => by
            rw [likeL_no (k := k) (ss := ss.drop n) hlt (by simp; omega) (by simpa using h5)]
          have e := step_i hlt hf'
          have next : likeB ss[n + k] r.fr[k] = true → ∀ j (hj : j < k + 1) (h3 : n + j < ss.length) (h4 : j < r.fr.length), likeB ss[n + j] r.fr[j] = true := fun h5 j hj h6 h7 => by
            by_cases ej : j = k
            · subst ej; exact h5
            · exact hz j (by omega) h6 h7
          (refine ⟨fun h5 => ?_, fun h5 => ?_⟩ <;> rw [h5])
          · rw [notB_t, eqI_comm] at h5
            ((repeat ((conv => whnf); first | refine brT ?_ | refine brF ?_)); conv => whnf)
            exact fin (no (by unfold likeB; rw [h5]; rfl))
          rw [notB_f, eqI_comm] at h5
          ((repeat ((conv => whnf); first | refine brT ?_ | refine brF ?_)); conv => whnf)
          (refine ⟨fun h6 => ?_, fun h6 => ?_⟩ <;> rw [h6])
          · rw [notB_t] at h6
            ((repeat ((conv => whnf); first | refine brT ?_ | refine brF ?_)); conv => whnf)
            (refine ⟨fun h7 => ?_, fun h7 => ?_⟩ <;> rw [h7])
            · rw [notB_t, eqI_comm] at h7
              ((repeat ((conv => whnf); first | refine brT ?_ | refine brF ?_)); conv => whnf)
              exact fin (no (by unfold likeB; rw [h5, h6, h7]; rfl))
            rw [notB_f, eqI_comm] at h7
            ((repeat ((conv => whnf); first | refine brT ?_ | refine brF ?_)); conv => whnf)
            refine round_end (k + 1) ⟨hlt, next (by unfold likeB; rw [h5, h6, h7]; rfl)⟩ (by omega) ⟨?_, ⟨rfl, rfl, trivial⟩, rfl, rfl⟩
            ((repeat ((conv => whnf); first | refine ⟨e, ?_⟩ | refine ⟨rfl, ?_⟩)); trivial)
          rw [notB_f] at h6
          ((repeat ((conv => whnf); first | refine brT ?_ | refine brF ?_)); conv => whnf)
          refine round_end (k + 1) ⟨hlt, next (by unfold likeB; rw [h5, h6]; rfl)⟩ (by omega) ⟨?_, ⟨rfl, rfl, trivial⟩, rfl, rfl⟩
          ((repeat ((conv => whnf); first | refine ⟨e, ?_⟩ | refine ⟨rfl, ?_⟩)); trivial)
        have h5 : k = r.fr.length := by rw [ltI_f] at h4; omega
        subst h5
        ((repeat ((conv => whnf); first | refine brT ?_ | refine brF ?_)); conv => whnf)
        refine fin ?_
        symm
        exact likeL_yes (by simp; omega) fun j hj hs3 => by
          have := hz j hj (by simp at hs3; omega) hj
          simpa using this
    · have hn0 : n = 0 := by rw [ltI_f] at q1; omega
      have hsx : sexAt (egoT e ss) ss n = egoT e ss := by rw [hn0]; rfl
      rw [hsx]
      ((repeat ((conv => whnf); first | refine brT ?_ | refine brF ?_)); conv => whnf)
      (refine ⟨fun g1 => ?_, fun g1 => ?_⟩ <;> rw [g1])
      · rw [notB_t] at g1
        ((repeat ((conv => whnf); first | refine brT ?_ | refine brF ?_)); conv => whnf)
        (refine ⟨fun g2 => ?_, fun g2 => ?_⟩ <;> rw [g2])
        · rw [notB_t] at g2
          ((repeat ((conv => whnf); first | refine brT ?_ | refine brF ?_)); conv => whnf)
          exact fin (by rw [g1, g2]; rfl)
        rw [notB_f] at g2
        rw [show (eqI r.sex 0 || eqI r.sex (egoT e ss)) = true by rw [g2, Bool.or_true], Bool.true_and]
        ((repeat ((conv => whnf); first | refine brT ?_ | refine brF ?_)); conv => whnf)
        intro _
        rw [List.length_map]
        ((repeat ((conv => whnf); first | refine brT ?_ | refine brF ?_)); conv => whnf)
        refine loop_rule (α := Nat) (fun k => [(71, .int .i64 (k : Int))]) (fun _ => [.box r.lv, .box (typLV e ss)]) (fun k => r.fr.length - k) (fun k => k ≤ r.fr.length ∧ ∀ j (hj : j < k) (h3 : n + j < ss.length) (h4 : j < r.fr.length), likeB ss[n + j] r.fr[j] = true) 0 ⟨Nat.zero_le _, fun _ h => absurd h (Nat.not_lt_zero _)⟩ ?_ ?_
        · refine ⟨?_, ⟨rfl, rfl, trivial⟩, rfl, rfl⟩
          ((repeat ((conv => whnf); refine ⟨rfl, ?_⟩)); trivial)
        rintro k ⟨hk, hz⟩
        ((repeat ((conv => whnf); first | refine brT ?_ | refine brF ?_)); conv => whnf)
        (refine ⟨fun h4 => ?_, fun h4 => ?_⟩ <;> rw [h4])
        · have hlt : k < r.fr.length := by rw [ltI_t] at h4; omega
          have hlt2 : n + k < ss.length := by omega
          ((repeat ((conv => whnf); first | refine brT ?_ | refine brF ?_)); conv => whnf)
          refine ⟨k, r.fr[k].lv, rfl, by simp [hlt], rfl, ?_⟩
          ((repeat ((conv => whnf); first | refine brT ?_ | refine brF ?_)); conv => whnf)
          rw [show IntKind.i64.wrap ((n : Int) + (k : Int)) = ((n + k : Nat) : Int) by rw [wrap64 (by omega) (by omega)]; omega]
          refine ⟨n + k, ss[n + k].lv, rfl, by simp [hlt2], rfl, ?_⟩
          ((repeat ((conv => whnf); first | refine brT ?_ | refine brF ?_)); conv => whnf)
          have no : likeB ss[n + k] r.fr[k] = false → false = (likeL r.fr (ss.drop n)) := fun h5 => by
            rw [likeL_no (k := k) (ss := ss.drop n) hlt (by simp; omega) (by simpa using h5)]
          have e := step_i hlt hf'
          have next : likeB ss[n + k] r.fr[k] = true → ∀ j (hj : j < k + 1) (h3 : n + j < ss.length) (h4 : j < r.fr.length), likeB ss[n + j] r.fr[j] = true := fun h5 j hj h6 h7 => by
            by_cases ej : j = k
            · subst ej; exact h5
            · exact hz j (by omega) h6 h7
          (refine ⟨fun h5 => ?_, fun h5 => ?_⟩ <;> rw [h5])
          · rw [notB_t, eqI_comm] at h5
            ((repeat ((conv => whnf); first | refine brT ?_ | refine brF ?_)); conv => whnf)
            exact fin (no (by unfold likeB; rw [h5]; rfl))
          rw [notB_f, eqI_comm] at h5
          ((repeat ((conv => whnf); first | refine brT ?_ | refine brF ?_)); conv => whnf)
          (refine ⟨fun h6 => ?_, fun h6 => ?_⟩ <;> rw [h6])
          · rw [notB_t] at h6
            ((repeat ((conv => whnf); first | refine brT ?_ | refine brF ?_)); conv => whnf)
            (refine ⟨fun h7 => ?_, fun h7 => ?_⟩ <;> rw [h7])
            · rw [notB_t, eqI_comm] at h7
              ((repeat ((conv => whnf); first | refine brT ?_ | refine brF ?_)); conv => whnf)
              exact fin (no (by unfold likeB; rw [h5, h6, h7]; rfl))
            rw [notB_f, eqI_comm] at h7
            ((repeat ((conv => whnf); first | refine brT ?_ | refine brF ?_)); conv => whnf)
            refine round_end (k + 1) ⟨hlt, next (by unfold likeB; rw [h5, h6, h7]; rfl)⟩ (by omega) ⟨?_, ⟨rfl, rfl, trivial⟩, rfl, rfl⟩
            ((repeat ((conv => whnf); first | refine ⟨e, ?_⟩ | refine ⟨rfl, ?_⟩)); trivial)
          rw [notB_f] at h6
          ((repeat ((conv => whnf); first | refine brT ?_ | refine brF ?_)); conv => whnf)
          refine round_end (k + 1) ⟨hlt, next (by unfold likeB; rw [h5, h6]; rfl)⟩ (by omega) ⟨?_, ⟨rfl, rfl, trivial⟩, rfl, rfl⟩
          ((repeat ((conv => whnf); first | refine ⟨e, ?_⟩ | refine ⟨rfl, ?_⟩)); trivial)
        have h5 : k = r.fr.length := by rw [ltI_f] at h4; omega
        subst h5
        ((repeat ((conv => whnf); first | refine brT ?_ | refine brF ?_)); conv => whnf)
        refine fin ?_
        symm
        exact likeL_yes (by simp; omega) fun j hj hs3 => by
          have := hz j hj (by simp at hs3; omega) hj
          simpa using this
      · rw [notB_f] at g1
        rw [show (eqI r.sex 0 || eqI r.sex (egoT e ss)) = true by rw [g1]; rfl, Bool.true_and]
        ((repeat ((conv => whnf); first | refine brT ?_ | refine brF ?_)); conv => whnf)
        intro _
        rw [List.length_map]
        ((repeat ((conv => whnf); first | refine brT ?_ | refine brF ?_)); conv => whnf)
        refine loop_rule (α := Nat) (fun k => [(71, .int .i64 (k : Int))]) (fun _ => [.box r.lv, .box (typLV e ss)]) (fun k => r.fr.length - k) (fun k => k ≤ r.fr.length ∧ ∀ j (hj : j < k) (h3 : n + j < ss.length) (h4 : j < r.fr.length), likeB ss[n + j] r.fr[j] = true) 0 ⟨Nat.zero_le _, fun _ h => absurd h (Nat.not_lt_zero _)⟩ ?_ ?_
        · refine ⟨?_, ⟨rfl, rfl, trivial⟩, rfl, rfl⟩
          ((repeat ((conv => whnf); refine ⟨rfl, ?_⟩)); trivial)
        rintro k ⟨hk, hz⟩
        ((repeat ((conv => whnf); first | refine brT ?_ | refine brF ?_)); conv => whnf)
        (refine ⟨fun h4 => ?_, fun h4 => ?_⟩ <;> rw [h4])
        · have hlt : k < r.fr.length := by rw [ltI_t] at h4; omega
          have hlt2 : n + k < ss.length := by omega
          ((repeat ((conv => whnf); first | refine brT ?_ | refine brF ?_)); conv => whnf)
          refine ⟨k, r.fr[k].lv, rfl, by simp [hlt], rfl, ?_⟩
          ((repeat ((conv => whnf); first | refine brT ?_ | refine brF ?_)); conv => whnf)
          rw [show IntKind.i64.wrap ((n : Int) + (k : Int)) = ((n + k : Nat) : Int) by rw [wrap64 (by omega) (by omega)]; omega]
          refine ⟨n + k, ss[n + k].lv, rfl, by simp [hlt2], rfl, ?_⟩
          ((repeat ((conv => whnf); first | refine brT ?_ | refine brF ?_)); conv => whnf)
          have no : likeB ss[n + k] r.fr[k] = false → false = (likeL r.fr (ss.drop n)) := fun h5 => by
            rw [likeL_no (k := k) (ss := ss.drop n) hlt (by simp; omega) (by simpa using h5)]
          have e := step_i hlt hf'
          have next : likeB ss[n + k] r.fr[k] = true → ∀ j (hj : j < k + 1) (h3 : n + j < ss.length) (h4 : j < r.fr.length), likeB ss[n + j] r.fr[j] = true := fun h5 j hj h6 h7 => by
            by_cases ej : j = k
            · subst ej; exact h5
            · exact hz j (by omega) h6 h7
          (refine ⟨fun h5 => ?_, fun h5 => ?_⟩ <;> rw [h5])
          · rw [notB_t, eqI_comm] at h5
            ((repeat ((conv => whnf); first | refine brT ?_ | refine brF ?_)); conv => whnf)
            exact fin (no (by unfold likeB; rw [h5]; rfl))
          rw [notB_f, eqI_comm] at h5
          ((repeat ((conv => whnf); first | refine brT ?_ | refine brF ?_)); conv => whnf)
          (refine ⟨fun h6 => ?_, fun h6 => ?_⟩ <;> rw [h6])
          · rw [notB_t] at h6
            ((repeat ((conv => whnf); first | refine brT ?_ | refine brF ?_)); conv => whnf)
            (refine ⟨fun h7 => ?_, fun h7 => ?_⟩ <;> rw [h7])
            · rw [notB_t, eqI_comm] at h7
              ((repeat ((conv => whnf); first | refine brT ?_ | refine brF ?_)); conv => whnf)
              exact fin (no (by unfold likeB; rw [h5, h6, h7]; rfl))
            rw [notB_f, eqI_comm] at h7
            ((repeat ((conv => whnf); first | refine brT ?_ | refine brF ?_)); conv => whnf)
            refine round_end (k + 1) ⟨hlt, next (by unfold likeB; rw [h5, h6, h7]; rfl)⟩ (by omega) ⟨?_, ⟨rfl, rfl, trivial⟩, rfl, rfl⟩
            ((repeat ((conv => whnf); first | refine ⟨e, ?_⟩ | refine ⟨rfl, ?_⟩)); trivial)
          rw [notB_f] at h6
          ((repeat ((conv => whnf); first | refine brT ?_ | refine brF ?_)); conv => whnf)
          refine round_end (k + 1) ⟨hlt, next (by unfold likeB; rw [h5, h6]; rfl)⟩ (by omega) ⟨?_, ⟨rfl, rfl, trivial⟩, rfl, rfl⟩
          ((repeat ((conv => whnf); first | refine ⟨e, ?_⟩ | refine ⟨rfl, ?_⟩)); trivial)
        have h5 : k = r.fr.length := by rw [ltI_f] at h4; omega
        subst h5
        ((repeat ((conv => whnf); first | refine brT ?_ | refine brF ?_)); conv => whnf)
        refine fin ?_
        symm
        exact likeL_yes (by simp; omega) fun j hj hs3 => by
          have := hz j hj (by simp at hs3; omega) hj
          simpa using this
  ((repeat ((conv => whnf); first | refine brT ?_ | refine brF ?_)); conv => whnf)
  (refine ⟨fun p2 => ?_, fun p2 => ?_⟩ <;> rw [p2])
  · ((repeat ((conv => whnf); first | refine brT ?_ | refine brF ?_)); conv => whnf)
    intro _
    rw [List.length_map]
    ((repeat ((conv => whnf); first | refine brT ?_ | refine brF ?_)); conv => whnf)
    rw [hend]
    (refine ⟨fun p3 => ?_, fun p3 => ?_⟩ <;> rw [p3])
    · rw [notB_t] at p3
      ((repeat ((conv => whnf); first | refine brT ?_ | refine brF ?_)); conv => whnf)
      exact fin (by rw [show plB r.place n (n + r.fr.length) ss.length = false by unfold plB; rw [p1, p2]; exact p3]; simp)
    rw [notB_f] at p3
    rw [show plB r.place n (n + r.fr.length) ss.length = true by unfold plB; rw [p1, p2]; exact p3, Bool.and_true]
    ((repeat ((conv => whnf); first | refine brT ?_ | refine brF ?_)); conv => whnf)
    refine ⟨_, l3Ego_spec e ss, ?_⟩
    ((repeat ((conv => whnf); first | refine brT ?_ | refine brF ?_)); conv => whnf)
    (refine ⟨fun q1 => ?_, fun q1 => ?_⟩ <;> rw [q1])
    · have hn0 : 0 < n := by rw [ltI_t] at q1; omega
      have hm : n - 1 < ss.length := by omega
      have hsx : sexAt (egoT e ss) ss n = sxOf (ss[n - 1]'hm).a := by
        obtain ⟨m, rfl⟩ : ∃ m, n = m + 1 := ⟨n - 1, by omega⟩
        have hm2 : m < ss.length := by omega
        simp [sexAt, hm2]
      rw [hsx]
      ((repeat ((conv => whnf); first | refine brT ?_ | refine brF ?_)); conv => whnf)
      rw [show IntKind.i64.wrap ((n : Int) - 1) = ((n - 1 : Nat) : Int) by rw [wrap64 (by omega) (by omega)]; omega]
      refine ⟨n - 1, (ss[n - 1]'hm).lv, rfl, by simp [hm], rfl, ?_⟩
      ((repeat ((conv => whnf); first | refine brT ?_ | refine brF ?_)); conv => whnf)
      refine ⟨_, l3Sex_spec (ss[n - 1]'hm).a, ?_⟩
      ((repeat ((conv => whnf); first | refine brT ?_ | refine brF ?_)); conv => whnf)
      (refine ⟨fun g1 => ?_, fun g1 => ?_⟩ <;> rw [g1])
      · rw [notB_t] at g1
        ((repeat ((conv => whnf); first | refine brT ?_ | refine brF ?_)); conv => whnf)
        (refine ⟨fun g2 => ?_, fun g2 => ?_⟩ <;> rw [g2])
        · rw [notB_t] at g2
          ((repeat ((conv => whnf); first | refine brT ?_ | refine brF ?_)); conv => whnf)
          exact fin (by rw [g1, g2]; rfl)
        rw [notB_f] at g2
        rw [show (eqI r.sex 0 || eqI r.sex (sxOf (ss[n - 1]'hm).a)) = true by rw [g2, Bool.or_true], Bool.true_and]
        ((repeat ((conv => whnf); first | refine brT ?_ | refine brF ?_)); conv => whnf)
        intro _
        rw [List.length_map]
        ((repeat ((conv => whnf); first | refine brT ?_ | refine brF ?_)); conv => whnf)
        refine loop_rule (α := Nat) (fun k => [(71, .int .i64 (k : Int))]) (fun _ => [.box r.lv, .box (typLV e ss)]) (fun k => r.fr.length - k) (fun k => k ≤ r.fr.length ∧ ∀ j (hj : j < k) (h3 : n + j < ss.length) (h4 : j < r.fr.length), likeB ss[n + j] r.fr[j] = true) 0 ⟨Nat.zero_le _, fun _ h => absurd h (Nat.not_lt_zero _)⟩ ?_ ?_
        · refine ⟨?_, ⟨rfl, rfl, trivial⟩, rfl, rfl⟩
          ((repeat ((conv => whnf); refine ⟨rfl, ?_⟩)); trivial)
        rintro k ⟨hk, hz⟩
        ((repeat ((conv => whnf); first | refine brT ?_ | refine brF ?_)); conv => whnf)
        (refine ⟨fun h4 => ?_, fun h4 => ?_⟩ <;> rw [h4])
        · have hlt : k < r.fr.length := by rw [ltI_t] at h4; omega
          have hlt2 : n + k < ss.length := by omega
          ((repeat ((conv => whnf); first | refine brT ?_ | refine brF ?_)); conv => whnf)
          refine ⟨k, r.fr[k].lv, rfl, by simp [hlt], rfl, ?_⟩
          ((repeat ((conv => whnf); first | refine brT ?_ | refine brF ?_)); conv => whnf)
          rw [show IntKind.i64.wrap ((n : Int) + (k : Int)) = ((n + k : Nat) : Int) by rw [wrap64 (by omega) (by omega)]; omega]
          refine ⟨n + k, ss[n + k].lv, rfl, by simp [hlt2], rfl, ?_⟩
          ((repeat ((conv => whnf); first | refine brT ?_ | refine brF ?_)); conv => whnf)
          have no : likeB ss[n + k] r.fr[k] = false → false = (likeL r.fr (ss.drop n)) := fun h5 => by
            rw [likeL_no (k := k) (ss := ss.drop n) hlt (by simp; omega) (by simpa using h5)]
          have e := step_i hlt hf'
          have next : likeB ss[n + k] r.fr[k] = true → ∀ j (hj : j < k + 1) (h3 : n + j < ss.length) (h4 : j < r.fr.length), likeB ss[n + j] r.fr[j] = true := fun h5 j hj h6 h7 => by
            by_cases ej : j = k
            · subst ej; exact h5
            · exact hz j (by omega) h6 h7
          (refine ⟨fun h5 => ?_, fun h5 => ?_⟩ <;> rw [h5])
          · rw [notB_t, eqI_comm] at h5
            ((repeat ((conv => whnf); first | refine brT ?_ | refine brF ?_)); conv => whnf)
            exact fin (no (by unfold likeB; rw [h5]; rfl))
          rw [notB_f, eqI_comm] at h5
          ((repeat ((conv => whnf); first | refine brT ?_ | refine brF ?_)); conv => whnf)
          (refine ⟨fun h6 => ?_, fun h6 => ?_⟩ <;> rw [h6])
          · rw [notB_t] at h6
            ((repeat ((conv => whnf); first | refine brT ?_ | refine brF ?_)); conv => whnf)
            (refine ⟨fun h7 => ?_, fun h7 => ?_⟩ <;> rw [h7])
            · rw [notB_t, eqI_comm] at h7
              ((repeat ((conv => whnf); first | refine brT ?_ | refine brF ?_)); conv => whnf)
              exact fin (no (by unfold likeB; rw [h5, h6, h7]; rfl))
            rw [notB_f, eqI_comm] at h7
            ((repeat ((conv => whnf); first | refine brT ?_ | refine brF ?_)); conv => whnf)
            refine round_end (k + 1) ⟨hlt, next (by unfold likeB; rw [h5, h6, h7]; rfl)⟩ (by omega) ⟨?_, ⟨rfl, rfl, trivial⟩, rfl, rfl⟩
            ((repeat ((conv => whnf); first | refine ⟨e, ?_⟩ | refine ⟨rfl, ?_⟩)); trivial)
          rw [notB_f] at h6
          ((repeat ((conv => whnf); first | refine brT ?_ | refine brF ?_)); conv => whnf)
          refine round_end (k + 1) ⟨hlt, next (by unfold likeB; rw [h5, h6]; rfl)⟩ (by omega) ⟨?_, ⟨rfl, rfl, trivial⟩, rfl, rfl⟩
          ((repeat ((conv => whnf); first | refine ⟨e, ?_⟩ | refine ⟨rfl, ?_⟩)); trivial)
        have h5 : k = r.fr.length := by rw [ltI_f] at h4; omega
        subst h5
        ((repeat ((conv => whnf); first | refine brT ?_ | refine brF ?_)); conv => whnf)
        refine fin ?_
        symm
        exact likeL_yes (by simp; omega) fun j hj hs3 => by
          have := hz j hj (by simp at hs3; omega) hj
          simpa using this
      · rw [notB_f] at g1
        rw [show (eqI r.sex 0 || eqI r.sex (sxOf (ss[n - 1]'hm).a)) = true by rw [g1]; rfl, Bool.true_and]
        ((repeat ((conv => whnf); first | refine brT ?_ | refine brF ?_)); conv => whnf)
        intro _
        rw [List.length_map]
        ((repeat ((conv => whnf); first | refine brT ?_ | refine brF ?_)); conv => whnf)
        refine loop_rule (α := Nat) (fun k => [(71, .int .i64 (k : Int))]) (fun _ => [.box r.lv, .box (typLV e ss)]) (fun k => r.fr.length - k) (fun k => k ≤ r.fr.length ∧ ∀ j (hj : j < k) (h3 : n + j < ss.length) (h4 : j < r.fr.length), likeB ss[n + j] r.fr[j] = true) 0 ⟨Nat.zero_le _, fun _ h => absurd h (Nat.not_lt_zero _)⟩ ?_ ?_
        · refine ⟨?_, ⟨rfl, rfl, trivial⟩, rfl, rfl⟩
          ((repeat ((conv => whnf); refine ⟨rfl, ?_⟩)); trivial)
        rintro k ⟨hk, hz⟩
        ((repeat ((conv => whnf); first | refine brT ?_ | refine brF ?_)); conv => whnf)
        (refine ⟨fun h4 => ?_, fun h4 => ?_⟩ <;> rw [h4])
        · have hlt : k < r.fr.length := by rw [ltI_t] at h4; omega
          have hlt2 : n + k < ss.length := by omega
          ((repeat ((conv => whnf); first | refine brT ?_ | refine brF ?_)); conv => whnf)
          refine ⟨k, r.fr[k].lv, rfl, by simp [hlt], rfl, ?_⟩
          ((repeat ((conv => whnf); first | refine brT ?_ | refine brF ?_)); conv => whnf)
          rw [show IntKind.i64.wrap ((n : Int) + (k : Int)) = ((n + k : Nat) : Int) by rw [wrap64 (by omega) (by omega)]; omega]
          refine ⟨n + k, ss[n + k].lv, rfl, by simp [hlt2], rfl, ?_⟩
          ((repeat ((conv => whnf); first | refine brT ?_ | refine brF ?_)); conv => whnf)
          have no : likeB ss[n + k] r.fr[k] = false → false = (likeL r.fr (ss.drop n)) := fun h5 => by
            rw [likeL_no (k := k) (ss := ss.drop n) hlt (by simp; omega) (by simpa using h5)]
          have e := step_i hlt hf'
          have next : likeB ss[n + k] r.fr[k] = true → ∀ j (hj : j < k + 1) (h3 : n + j < ss.length) (h4 : j < r.fr.length), likeB ss[n + j] r.fr[j] = true := fun h5 j hj h6 h7 => by
            by_cases ej : j = k
            · subst ej; exact h5
            · exact hz j (by omega) h6 h7
          (refine ⟨fun h5 => ?_, fun h5 => ?_⟩ <;> rw [h5])
          · rw [notB_t, eqI_comm] at h5
            ((repeat ((conv => whnf); first | refine brT ?_ | refine brF ?_)); conv => whnf)
            exact fin (no (by unfold likeB; rw [h5]; rfl))
          rw [notB_f, eqI_comm] at h5
          ((repeat ((conv => whnf); first | refine brT ?_ | refine brF ?_)); conv => whnf)
          (refine ⟨fun h6 => ?_, fun h6 => ?_⟩ <;> rw [h6])
          · rw [notB_t] at h6
            ((repeat ((conv => whnf); first | refine brT ?_ | refine brF ?_)); conv => whnf)
            (refine ⟨fun h7 => ?_, fun h7 => ?_⟩ <;> rw [h7])
            · rw [notB_t, eqI_comm] at h7
              ((repeat ((conv => whnf); first | refine brT ?_ | refine brF ?_)); conv => whnf)
              exact fin (no (by unfold likeB; rw [h5, h6, h7]; rfl))
            rw [notB_f, eqI_comm] at h7
            ((repeat ((conv => whnf); first | refine brT ?_ | refine brF ?_)); conv => whnf)
            refine round_end (k + 1) ⟨hlt, next (by unfold likeB; rw [h5, h6, h7]; rfl)⟩ (by omega) ⟨?_, ⟨rfl, rfl, trivial⟩, rfl, rfl⟩
            ((repeat ((conv => whnf); first | refine ⟨e, ?_⟩ | refine ⟨rfl, ?_⟩)); trivial)
          rw [notB_f] at h6
          ((repeat ((conv => whnf); first | refine brT ?_ | refine brF ?_)); conv => whnf)
          refine round_end (k + 1) ⟨hlt, next (by unfold likeB; rw [h5, h6]; rfl)⟩ (by omega) ⟨?_, ⟨rfl, rfl, trivial⟩, rfl, rfl⟩
          ((repeat ((conv => whnf); first | refine ⟨e, ?_⟩ | refine ⟨rfl, ?_⟩)); trivial)
        have h5 : k = r.fr.length := by rw [ltI_f] at h4; omega
        subst h5
        ((repeat ((conv => whnf); first | refine brT ?_ | refine brF ?_)); conv => whnf)
        refine fin ?_
        symm
        exact likeL_yes (by simp; omega) fun j hj hs3 => by
          have := hz j hj (by simp at hs3; omega) hj
          simpa using this
    · have hn0 : n = 0 := by rw [ltI_f] at q1; omega
      have hsx : sexAt (egoT e ss) ss n = egoT e ss := by rw [hn0]; rfl
      rw [hsx]
      ((repeat ((conv => whnf); first | refine brT ?_ | refine brF ?_)); conv => whnf)
      (refine ⟨fun g1 => ?_, fun g1 => ?_⟩ <;> rw [g1])
      · rw [notB_t] at g1
        ((repeat ((conv => whnf); first | refine brT ?_ | refine brF ?_)); conv => whnf)
        (refine ⟨fun g2 => ?_, fun g2 => ?_⟩ <;> rw [g2])
        · rw [notB_t] at g2
          ((repeat ((conv => whnf); first | refine brT ?_ | refine brF ?_)); conv => whnf)
          exact fin (by rw [g1, g2]; rfl)
        rw [notB_f] at g2
        rw [show (eqI r.sex 0 || eqI r.sex (egoT e ss)) = true by rw [g2, Bool.or_true], Bool.true_and]
        ((repeat ((conv => whnf); first | refine brT ?_ | refine brF ?_)); conv => whnf)
        intro _
        rw [List.length_map]
        ((repeat ((conv => whnf); first | refine brT ?_ | refine brF ?_)); conv => whnf)
        refine loop_rule (α := Nat) (fun k => [(71, .int .i64 (k : Int))]) (fun _ => [.box r.lv, .box (typLV e ss)]) (fun k => r.fr.length - k) (fun k => k ≤ r.fr.length ∧ ∀ j (hj : j < k) (h3 : n + j < ss.length) (h4 : j < r.fr.length), likeB ss[n + j] r.fr[j] = true) 0 ⟨Nat.zero_le _, fun _ h => absurd h (Nat.not_lt_zero _)⟩ ?_ ?_
        · refine ⟨?_, ⟨rfl, rfl, trivial⟩, rfl, rfl⟩
          ((repeat ((conv => whnf); refine ⟨rfl, ?_⟩)); trivial)
        rintro k ⟨hk, hz⟩
        ((repeat ((conv => whnf); first | refine brT ?_ | refine brF ?_)); conv => whnf)
        (refine ⟨fun h4 => ?_, fun h4 => ?_⟩ <;> rw [h4])
        · have hlt : k < r.fr.length := by rw [ltI_t] at h4; omega
          have hlt2 : n + k < ss.length := by omega
          ((repeat ((conv => whnf); first | refine brT ?_ | refine brF ?_)); conv => whnf)
          refine ⟨k, r.fr[k].lv, rfl, by simp [hlt], rfl, ?_⟩
          ((repeat ((conv => whnf); first | refine brT ?_ | refine brF ?_)); conv => whnf)
          rw [show IntKind.i64.wrap ((n : Int) + (k : Int)) = ((n + k : Nat) : Int) by rw [wrap64 (by omega) (by omega)]; omega]
          refine ⟨n + k, ss[n + k].lv, rfl, by simp [hlt2], rfl, ?_⟩
          ((repeat ((conv => whnf); first | refine brT ?_ | refine brF ?_)); conv => whnf)
          have no : likeB ss[n + k] r.fr[k] = false → false = (likeL r.fr (ss.drop n)) := fun h5 => by
            rw [likeL_no (k := k) (ss := ss.drop n) hlt (by simp; omega) (by simpa using h5)]
          have e := step_i hlt hf'
          have next : likeB ss[n + k] r.fr[k] = true → ∀ j (hj : j < k + 1) (h3 : n + j < ss.length) (h4 : j < r.fr.length), likeB ss[n + j] r.fr[j] = true := fun h5 j hj h6 h7 => by
            by_cases ej : j = k
            · subst ej; exact h5
            · exact hz j (by omega) h6 h7
          (refine ⟨fun h5 => ?_, fun h5 => ?_⟩ <;> rw [h5])
          · rw [notB_t, eqI_comm] at h5
            ((repeat ((conv => whnf); first | refine brT ?_ | refine brF ?_)); conv => whnf)
            exact fin (no (by unfold likeB; rw [h5]; rfl))
          rw [notB_f, eqI_comm] at h5
          ((repeat ((conv => whnf); first | refine brT ?_ | refine brF ?_)); conv => whnf)
          (refine ⟨fun h6 => ?_, fun h6 => ?_⟩ <;> rw [h6])
          · rw [notB_t] at h6
            ((repeat ((conv => whnf); first | refine brT ?_ | refine brF ?_)); conv => whnf)
            (refine ⟨fun h7 => ?_, fun h7 => ?_⟩ <;> rw [h7])
            · rw [notB_t, eqI_comm] at h7
              ((repeat ((conv => whnf); first | refine brT ?_ | refine brF ?_)); conv => whnf)
              exact fin (no (by unfold likeB; rw [h5, h6, h7]; rfl))
            rw [notB_f, eqI_comm] at h7
            ((repeat ((conv => whnf); first | refine brT ?_ | refine brF ?_)); conv => whnf)
            refine round_end (k + 1) ⟨hlt, next (by unfold likeB; rw [h5, h6, h7]; rfl)⟩ (by omega) ⟨?_, ⟨rfl, rfl, trivial⟩, rfl, rfl⟩
            ((repeat ((conv => whnf); first | refine ⟨e, ?_⟩ | refine ⟨rfl, ?_⟩)); trivial)
          rw [notB_f] at h6
          ((repeat ((conv => whnf); first | refine brT ?_ | refine brF ?_)); conv => whnf)
          refine round_end (k + 1) ⟨hlt, next (by unfold likeB; rw [h5, h6]; rfl)⟩ (by omega) ⟨?_, ⟨rfl, rfl, trivial⟩, rfl, rfl⟩
          ((repeat ((conv => whnf); first | refine ⟨e, ?_⟩ | refine ⟨rfl, ?_⟩)); trivial)
        have h5 : k = r.fr.length := by rw [ltI_f] at h4; omega
        subst h5
        ((repeat ((conv => whnf); first | refine brT ?_ | refine brF ?_)); conv => whnf)
        refine fin ?_
        symm
        exact likeL_yes (by simp; omega) fun j hj hs3 => by
          have := hz j hj (by simp at hs3; omega) hj
          simpa using this
      · rw [notB_f] at g1
        rw [show (eqI r.sex 0 || eqI r.sex (egoT e ss)) = true by rw [g1]; rfl, Bool.true_and]
        ((repeat ((conv => whnf); first | refine brT ?_ | refine brF ?_)); conv => whnf)
        intro _
        rw [List.length_map]
        ((repeat ((conv => whnf); first | refine brT ?_ | refine brF ?_)); conv => whnf)
        refine loop_rule (α := Nat) (fun k => [(71, .int .i64 (k : Int))]) (fun _ => [.box r.lv, .box (typLV e ss)]) (fun k => r.fr.length - k) (fun k => k ≤ r.fr.length ∧ ∀ j (hj : j < k) (h3 : n + j < ss.length) (h4 : j < r.fr.length), likeB ss[n + j] r.fr[j] = true) 0 ⟨Nat.zero_le _, fun _ h => absurd h (Nat.not_lt_zero _)⟩ ?_ ?_
        · refine ⟨?_, ⟨rfl, rfl, trivial⟩, rfl, rfl⟩
          ((repeat ((conv => whnf); refine ⟨rfl, ?_⟩)); trivial)
        rintro k ⟨hk, hz⟩
        ((repeat ((conv => whnf); first | refine brT ?_ | refine brF ?_)); conv => whnf)
        (refine ⟨fun h4 => ?_, fun h4 => ?_⟩ <;> rw [h4])
        · have hlt : k < r.fr.length := by rw [ltI_t] at h4; omega
          have hlt2 : n + k < ss.length := by omega
          ((repeat ((conv => whnf); first | refine brT ?_ | refine brF ?_)); conv => whnf)
          refine ⟨k, r.fr[k].lv, rfl, by simp [hlt], rfl, ?_⟩
          ((repeat ((conv => whnf); first | refine brT ?_ | refine brF ?_)); conv => whnf)
          rw [show IntKind.i64.wrap ((n : Int) + (k : Int)) = ((n + k : Nat) : Int) by rw [wrap64 (by omega) (by omega)]; omega]
          refine ⟨n + k, ss[n + k].lv, rfl, by simp [hlt2], rfl, ?_⟩
          ((repeat ((conv => whnf); first | refine brT ?_ | refine brF ?_)); conv => whnf)
          have no : likeB ss[n + k] r.fr[k] = false → false = (likeL r.fr (ss.drop n)) := fun h5 => by
            rw [likeL_no (k := k) (ss := ss.drop n) hlt (by simp; omega) (by simpa using h5)]
          have e := step_i hlt hf'
          have next : likeB ss[n + k] r.fr[k] = true → ∀ j (hj : j < k + 1) (h3 : n + j < ss.length) (h4 : j < r.fr.length), likeB ss[n + j] r.fr[j] = true := fun h5 j hj h6 h7 => by
            by_cases ej : j = k
            · subst ej; exact h5
            · exact hz j (by omega) h6 h7
          (refine ⟨fun h5 => ?_, fun h5 => ?_⟩ <;> rw [h5])
          · rw [notB_t, eqI_comm] at h5
            ((repeat ((conv => whnf); first | refine brT ?_ | refine brF ?_)); conv => whnf)
            exact fin (no (by unfold likeB; rw [h5]; rfl))
          rw [notB_f, eqI_comm] at h5
          ((repeat ((conv => whnf); first | refine brT ?_ | refine brF ?_)); conv => whnf)
          (refine ⟨fun h6 => ?_, fun h6 => ?_⟩ <;> rw [h6])
          · rw [notB_t] at h6
            ((repeat ((conv => whnf); first | refine brT ?_ | refine brF ?_)); conv => whnf)
            (refine ⟨fun h7 => ?_, fun h7 => ?_⟩ <;> rw [h7])
            · rw [notB_t, eqI_comm] at h7
              ((repeat ((conv => whnf); first | refine brT ?_ | refine brF ?_)); conv => whnf)
              exact fin (no (by unfold likeB; rw [h5, h6, h7]; rfl))
            rw [notB_f, eqI_comm] at h7
            ((repeat ((conv => whnf); first | refine brT ?_ | refine brF ?_)); conv => whnf)
            refine round_end (k + 1) ⟨hlt, next (by unfold likeB; rw [h5, h6, h7]; rfl)⟩ (by omega) ⟨?_, ⟨rfl, rfl, trivial⟩, rfl, rfl⟩
            ((repeat ((conv => whnf); first | refine ⟨e, ?_⟩ | refine ⟨rfl, ?_⟩)); trivial)
          rw [notB_f] at h6
          ((repeat ((conv => whnf); first | refine brT ?_ | refine brF ?_)); conv => whnf)
          refine round_end (k + 1) ⟨hlt, next (by unfold likeB; rw [h5, h6]; rfl)⟩ (by omega) ⟨?_, ⟨rfl, rfl, trivial⟩, rfl, rfl⟩
          ((repeat ((conv => whnf); first | refine ⟨e, ?_⟩ | refine ⟨rfl, ?_⟩)); trivial)
        have h5 : k = r.fr.length := by rw [ltI_f] at h4; omega
        subst h5
        ((repeat ((conv => whnf); first | refine brT ?_ | refine brF ?_)); conv => whnf)
        refine fin ?_
        symm
        exact likeL_yes (by simp; omega) fun j hj hs3 => by
          have := hz j hj (by simp at hs3; omega) hj
          simpa using this
  rw [show plB r.place n (n + r.fr.length) ss.length = true by unfold plB; rw [p1, p2], Bool.and_true]
  ((repeat ((conv => whnf); first | refine brT ?_ | refine brF ?_)); conv => whnf)
  refine ⟨_, l3Ego_spec e ss, ?_⟩
  ((repeat ((conv => whnf); first | refine brT ?_ | refine brF ?_)); conv => whnf)
  (refine ⟨fun q1 => ?_, fun q1 => ?_⟩ <;> rw [q1])
  · have hn0 : 0 < n := by rw [ltI_t] at q1; omega
    have hm : n - 1 < ss.length := by omega
    have hsx : sexAt (egoT e ss) ss n = sxOf (ss[n - 1]'hm).a := by
      obtain ⟨m, rfl⟩ : ∃ m, n = m + 1 := ⟨n - 1, by omega⟩
      have hm2 : m < ss.length := by omega
      simp [sexAt, hm2]
    rw [hsx]
    ((repeat ((conv => whnf); first | refine brT ?_ | refine brF ?_)); conv => whnf)
    rw [show IntKind.i64.wrap ((n : Int) - 1) = ((n - 1 : Nat) : Int) by rw [wrap64 (by omega) (by omega)]; omega]
    refine ⟨n - 1, (ss[n - 1]'hm).lv, rfl, by simp [hm], rfl, ?_⟩
    ((repeat ((conv => whnf); first | refine brT ?_ | refine brF ?_)); conv => whnf)
    refine ⟨_, l3Sex_spec (ss[n - 1]'hm).a, ?_⟩
    ((repeat ((conv => whnf); first | refine brT ?_ | refine brF ?_)); conv => whnf)
    (refine ⟨fun g1 => ?_, fun g1 => ?_⟩ <;> rw [g1])
    · rw [notB_t] at g1
      ((repeat ((conv => whnf); first | refine brT ?_ | refine brF ?_)); conv => whnf)
      (refine ⟨fun g2 => ?_, fun g2 => ?_⟩ <;> rw [g2])
      · rw [notB_t] at g2
        ((repeat ((conv => whnf); first | refine brT ?_ | refine brF ?_)); conv => whnf)
        exact fin (by rw [g1, g2]; rfl)
      rw [notB_f] at g2
      rw [show (eqI r.sex 0 || eqI r.sex (sxOf (ss[n - 1]'hm).a)) = true by rw [g2, Bool.or_true], Bool.true_and]
      ((repeat ((conv => whnf); first | refine brT ?_ | refine brF ?_)); conv => whnf)
      intro _
      rw [List.length_map]
      ((repeat ((conv => whnf); first | refine brT ?_ | refine brF ?_)); conv => whnf)
      refine loop_rule (α := Nat) (fun k => [(71, .int .i64 (k : Int))]) (fun _ => [.box r.lv, .box (typLV e ss)]) (fun k => r.fr.length - k) (fun k => k ≤ r.fr.length ∧ ∀ j (hj : j < k) (h3 : n + j < ss.length) (h4 : j < r.fr.length), likeB ss[n + j] r.fr[j] = true) 0 ⟨Nat.zero_le _, fun _ h => absurd h (Nat.not_lt_zero _)⟩ ?_ ?_
      · refine ⟨?_, ⟨rfl, rfl, trivial⟩, rfl, rfl⟩
        ((repeat ((conv => whnf); refine ⟨rfl, ?_⟩)); trivial)
      rintro k ⟨hk, hz⟩
      ((repeat ((conv => whnf); first | refine brT ?_ | refine brF ?_)); conv => whnf)
      (refine ⟨fun h4 => ?_, fun h4 => ?_⟩ <;> rw [h4])
      · have hlt : k < r.fr.length := by rw [ltI_t] at h4; omega
        have hlt2 : n + k < ss.length := by omega
        ((repeat ((conv => whnf); first | refine brT ?_ | refine brF ?_)); conv => whnf)
        refine ⟨k, r.fr[k].lv, rfl, by simp [hlt], rfl, ?_⟩
        ((repeat ((conv => whnf); first | refine brT ?_ | refine brF ?_)); conv => whnf)
        rw [show IntKind.i64.wrap ((n : Int) + (k : Int)) = ((n + k : Nat) : Int) by rw [wrap64 (by omega) (by omega)]; omega]
        refine ⟨n + k, ss[n + k].lv, rfl, by simp [hlt2], rfl, ?_⟩
        ((repeat ((conv => whnf); first | refine brT ?_ | refine brF ?_)); conv => whnf)
        have no : likeB ss[n + k] r.fr[k] = false → false = (likeL r.fr (ss.drop n)) := fun h5 => by
          rw [likeL_no (k := k) (ss := ss.drop n) hlt (by simp; omega) (by simpa using h5)]
        have e := step_i hlt hf'
        have next : likeB ss[n + k] r.fr[k] = true → ∀ j (hj : j < k + 1) (h3 : n + j < ss.length) (h4 : j < r.fr.length), likeB ss[n + j] r.fr[j] = true := fun h5 j hj h6 h7 => by
          by_cases ej : j = k
          · subst ej; exact h5
          · exact hz j (by omega) h6 h7
        (refine ⟨fun h5 => ?_, fun h5 => ?_⟩ <;> rw [h5])
        · rw [notB_t, eqI_comm] at h5
          ((repeat ((conv => whnf); first | refine brT ?_ | refine brF ?_)); conv => whnf)
          exact fin (no (by unfold likeB; rw [h5]; rfl))
        rw [notB_f, eqI_comm] at h5
        ((repeat ((conv => whnf); first | refine brT ?_ | refine brF ?_)); conv => whnf)
        (refine ⟨fun h6 => ?_, fun h6 => ?_⟩ <;> rw [h6])
        · rw [notB_t] at h6
          ((repeat ((conv => whnf); first | refine brT ?_ | refine brF ?_)); conv => whnf)
          (refine ⟨fun h7 => ?_, fun h7 => ?_⟩ <;> rw [h7])
          · rw [notB_t, eqI_comm] at h7
            ((repeat ((conv => whnf); first | refine brT ?_ | refine brF ?_)); conv => whnf)
            exact fin (no (by unfold likeB; rw [h5, h6, h7]; rfl))
          rw [notB_f, eqI_comm] at h7
          ((repeat ((conv => whnf); first | refine brT ?_ | refine brF ?_)); conv => whnf)
          refine round_end (k + 1) ⟨hlt, next (by unfold likeB; rw [h5, h6, h7]; rfl)⟩ (by omega) ⟨?_, ⟨rfl, rfl, trivial⟩, rfl, rfl⟩
          ((repeat ((conv => whnf); first | refine ⟨e, ?_⟩ | refine ⟨rfl, ?_⟩)); trivial)
        rw [notB_f] at h6
        ((repeat ((conv => whnf); first | refine brT ?_ | refine brF ?_)); conv => whnf)
        refine round_end (k + 1) ⟨hlt, next (by unfold likeB; rw [h5, h6]; rfl)⟩ (by omega) ⟨?_, ⟨rfl, rfl, trivial⟩, rfl, rfl⟩
        ((repeat ((conv => whnf); first | refine ⟨e, ?_⟩ | refine ⟨rfl, ?_⟩)); trivial)
      have h5 : k = r.fr.length := by rw [ltI_f] at h4; omega
      subst h5
      ((repeat ((conv => whnf); first | refine brT ?_ | refine brF ?_)); conv => whnf)
      refine fin ?_
      symm
      exact likeL_yes (by simp; omega) fun j hj hs3 => by
        have := hz j hj (by simp at hs3; omega) hj
        simpa using this
    · rw [notB_f] at g1
      rw [show (eqI r.sex 0 || eqI r.sex (sxOf (ss[n - 1]'hm).a)) = true by rw [g1]; rfl, Bool.true_and]
      ((repeat ((conv => whnf); first | refine brT ?_ | refine brF ?_)); conv => whnf)
      intro _
      rw [List.length_map]
      ((repeat ((conv => whnf); first | refine brT ?_ | refine brF ?_)); conv => whnf)
      refine loop_rule (α := Nat) (fun k => [(71, .int .i64 (k : Int))]) (fun _ => [.box r.lv, .box (typLV e ss)]) (fun k => r.fr.length - k) (fun k => k ≤ r.fr.length ∧ ∀ j (hj : j < k) (h3 : n + j < ss.length) (h4 : j < r.fr.length), likeB ss[n + j] r.fr[j] = true) 0 ⟨Nat.zero_le _, fun _ h => absurd h (Nat.not_lt_zero _)⟩ ?_ ?_
      · refine ⟨?_, ⟨rfl, rfl, trivial⟩, rfl, rfl⟩
        ((repeat ((conv => whnf); refine ⟨rfl, ?_⟩)); trivial)
      rintro k ⟨hk, hz⟩
      ((repeat ((conv => whnf); first | refine brT ?_ | refine brF ?_)); conv => whnf)
      (refine ⟨fun h4 => ?_, fun h4 => ?_⟩ <;> rw [h4])
      · have hlt : k < r.fr.length := by rw [ltI_t] at h4; omega
        have hlt2 : n + k < ss.length := by omega
        ((repeat ((conv => whnf); first | refine brT ?_ | refine brF ?_)); conv => whnf)
        refine ⟨k, r.fr[k].lv, rfl, by simp [hlt], rfl, ?_⟩
        ((repeat ((conv => whnf); first | refine brT ?_ | refine brF ?_)); conv => whnf)
        rw [show IntKind.i64.wrap ((n : Int) + (k : Int)) = ((n + k : Nat) : Int) by rw [wrap64 (by omega) (by omega)]; omega]
        refine ⟨n + k, ss[n + k].lv, rfl, by simp [hlt2], rfl, ?_⟩
        ((repeat ((conv => whnf); first | refine brT ?_ | refine brF ?_)); conv => whnf)
        have no : likeB ss[n + k] r.fr[k] = false → false = (likeL r.fr (ss.drop n)) := fun h5 => by
          rw [likeL_no (k := k) (ss := ss.drop n) hlt (by simp; omega) (by simpa using h5)]
        have e := step_i hlt hf'
        have next : likeB ss[n + k] r.fr[k] = true → ∀ j (hj : j < k + 1) (h3 : n + j < ss.length) (h4 : j < r.fr.length), likeB ss[n + j] r.fr[j] = true := fun h5 j hj h6 h7 => by
          by_cases ej : j = k
          · subst ej; exact h5
          · exact hz j (by omega) h6 h7
        (refine ⟨fun h5 => ?_, fun h5 => ?_⟩ <;> rw [h5])
        · rw [notB_t, eqI_comm] at h5
          ((repeat ((conv => whnf); first | refine brT ?_ | refine brF ?_)); conv => whnf)
          exact fin (no (by unfold likeB; rw [h5]; rfl))
        rw [notB_f, eqI_comm] at h5
        ((repeat ((conv => whnf); first | refine brT ?_ | refine brF ?_)); conv => whnf)
        (refine ⟨fun h6 => ?_, fun h6 => ?_⟩ <;> rw [h6])
        · rw [notB_t] at h6
          ((repeat ((conv => whnf); first | refine brT ?_ | refine brF ?_)); conv => whnf)
          (refine ⟨fun h7 => ?_, fun h7 => ?_⟩ <;> rw [h7])
          · rw [notB_t, eqI_comm] at h7
            ((repeat ((conv => whnf); first | refine brT ?_ | refine brF ?_)); conv => whnf)
            exact fin (no (by unfold likeB; rw [h5, h6, h7]; rfl))
          rw [notB_f, eqI_comm] at h7
          ((repeat ((conv => whnf); first | refine brT ?_ | refine brF ?_)); conv => whnf)
          refine round_end (k + 1) ⟨hlt, next (by unfold likeB; rw [h5, h6, h7]; rfl)⟩ (by omega) ⟨?_, ⟨rfl, rfl, trivial⟩, rfl, rfl⟩
          ((repeat ((conv => whnf); first | refine ⟨e, ?_⟩ | refine ⟨rfl, ?_⟩)); trivial)
        rw [notB_f] at h6
        ((repeat ((conv => whnf); first | refine brT ?_ | refine brF ?_)); conv => whnf)
        refine round_end (k + 1) ⟨hlt, next (by unfold likeB; rw [h5, h6]; rfl)⟩ (by omega) ⟨?_, ⟨rfl, rfl, trivial⟩, rfl, rfl⟩
        ((repeat ((conv => whnf); first | refine ⟨e, ?_⟩ | refine ⟨rfl, ?_⟩)); trivial)
      have h5 : k = r.fr.length := by rw [ltI_f] at h4; omega
      subst h5
      ((repeat ((conv => whnf); first | refine brT ?_ | refine brF ?_)); conv => whnf)
      refine fin ?_
      symm
      exact likeL_yes (by simp; omega) fun j hj hs3 => by
        have := hz j hj (by simp at hs3; omega) hj
        simpa using this
  · have hn0 : n = 0 := by rw [ltI_f] at q1; omega
    have hsx : sexAt (egoT e ss) ss n = egoT e ss := by rw [hn0]; rfl
    rw [hsx]
    ((repeat ((conv => whnf); first | refine brT ?_ | refine brF ?_)); conv => whnf)
    (refine ⟨fun g1 => ?_, fun g1 => ?_⟩ <;> rw [g1])
    · rw [notB_t] at g1
      ((repeat ((conv => whnf); first | refine brT ?_ | refine brF ?_)); conv => whnf)
      (refine ⟨fun g2 => ?_, fun g2 => ?_⟩ <;> rw [g2])
      · rw [notB_t] at g2
        ((repeat ((conv => whnf); first | refine brT ?_ | refine brF ?_)); conv => whnf)
        exact fin (by rw [g1, g2]; rfl)
      rw [notB_f] at g2
      rw [show (eqI r.sex 0 || eqI r.sex (egoT e ss)) = true by rw [g2, Bool.or_true], Bool.true_and]
      ((repeat ((conv => whnf); first | refine brT ?_ | refine brF ?_)); conv => whnf)
      intro _
      rw [List.length_map]
      ((repeat ((conv => whnf); first | refine brT ?_ | refine brF ?_)); conv => whnf)
      refine loop_rule (α := Nat) (fun k => [(71, .int .i64 (k : Int))]) (fun _ => [.box r.lv, .box (typLV e ss)]) (fun k => r.fr.length - k) (fun k => k ≤ r.fr.length ∧ ∀ j (hj : j < k) (h3 : n + j < ss.length) (h4 : j < r.fr.length), likeB ss[n + j] r.fr[j] = true) 0 ⟨Nat.zero_le _, fun _ h => absurd h (Nat.not_lt_zero _)⟩ ?_ ?_
      · refine ⟨?_, ⟨rfl, rfl, trivial⟩, rfl, rfl⟩
        ((repeat ((conv => whnf); refine ⟨rfl, ?_⟩)); trivial)
      rintro k ⟨hk, hz⟩
      ((repeat ((conv => whnf); first | refine brT ?_ | refine brF ?_)); conv => whnf)
      (refine ⟨fun h4 => ?_, fun h4 => ?_⟩ <;> rw [h4])
      · have hlt : k < r.fr.length := by rw [ltI_t] at h4; omega
        have hlt2 : n + k < ss.length := by omega
        ((repeat ((conv => whnf); first | refine brT ?_ | refine brF ?_)); conv => whnf)
        refine ⟨k, r.fr[k].lv, rfl, by simp [hlt], rfl, ?_⟩
        ((repeat ((conv => whnf); first | refine brT ?_ | refine brF ?_)); conv => whnf)
        rw [show IntKind.i64.wrap ((n : Int) + (k : Int)) = ((n + k : Nat) : Int) by rw [wrap64 (by omega) (by omega)]; omega]
        refine ⟨n + k, ss[n + k].lv, rfl, by simp [hlt2], rfl, ?_⟩
        ((repeat ((conv => whnf); first | refine brT ?_ | refine brF ?_)); conv => whnf)
        have no : likeB ss[n + k] r.fr[k] = false → false = (likeL r.fr (ss.drop n)) := fun h5 => by
          rw [likeL_no (k := k) (ss := ss.drop n) hlt (by simp; omega) (by simpa using h5)]
        have e := step_i hlt hf'
        have next : likeB ss[n + k] r.fr[k] = true → ∀ j (hj : j < k + 1) (h3 : n + j < ss.length) (h4 : j < r.fr.length), likeB ss[n + j] r.fr[j] = true := fun h5 j hj h6 h7 => by
          by_cases ej : j = k
          · subst ej; exact h5
          · exact hz j (by omega) h6 h7
        (refine ⟨fun h5 => ?_, fun h5 => ?_⟩ <;> rw [h5])
        · rw [notB_t, eqI_comm] at h5
          ((repeat ((conv => whnf); first | refine brT ?_ | refine brF ?_)); conv => whnf)
          exact fin (no (by unfold likeB; rw [h5]; rfl))
        rw [notB_f, eqI_comm] at h5
        ((repeat ((conv => whnf); first | refine brT ?_ | refine brF ?_)); conv => whnf)
        (refine ⟨fun h6 => ?_, fun h6 => ?_⟩ <;> rw [h6])
        · rw [notB_t] at h6
          ((repeat ((conv => whnf); first | refine brT ?_ | refine brF ?_)); conv => whnf)
          (refine ⟨fun h7 => ?_, fun h7 => ?_⟩ <;> rw [h7])
          · rw [notB_t, eqI_comm] at h7
            ((repeat ((conv => whnf); first | refine brT ?_ | refine brF ?_)); conv => whnf)
            exact fin (no (by unfold likeB; rw [h5, h6, h7]; rfl))
          rw [notB_f, eqI_comm] at h7
          ((repeat ((conv => whnf); first | refine brT ?_ | refine brF ?_)); conv => whnf)
          refine round_end (k + 1) ⟨hlt, next (by unfold likeB; rw [h5, h6, h7]; rfl)⟩ (by omega) ⟨?_, ⟨rfl, rfl, trivial⟩, rfl, rfl⟩
          ((repeat ((conv => whnf); first | refine ⟨e, ?_⟩ | refine ⟨rfl, ?_⟩)); trivial)
        rw [notB_f] at h6
        ((repeat ((conv => whnf); first | refine brT ?_ | refine brF ?_)); conv => whnf)
        refine round_end (k + 1) ⟨hlt, next (by unfold likeB; rw [h5, h6]; rfl)⟩ (by omega) ⟨?_, ⟨rfl, rfl, trivial⟩, rfl, rfl⟩
        ((repeat ((conv => whnf); first | refine ⟨e, ?_⟩ | refine ⟨rfl, ?_⟩)); trivial)
      have h5 : k = r.fr.length := by rw [ltI_f] at h4; omega
      subst h5
      ((repeat ((conv => whnf); first | refine brT ?_ | refine brF ?_)); conv => whnf)
      refine fin ?_
      symm
      exact likeL_yes (by simp; omega) fun j hj hs3 => by
        have := hz j hj (by simp at hs3; omega) hj
        simpa using this
    · rw [notB_f] at g1
      rw [show (eqI r.sex 0 || eqI r.sex (egoT e ss)) = true by rw [g1]; rfl, Bool.true_and]
      ((repeat ((conv => whnf); first | refine brT ?_ | refine brF ?_)); conv => whnf)
      intro _
      rw [List.length_map]
      ((repeat ((conv => whnf); first | refine brT ?_ | refine brF ?_)); conv => whnf)
      refine loop_rule (α := Nat) (fun k => [(71, .int .i64 (k : Int))]) (fun _ => [.box r.lv, .box (typLV e ss)]) (fun k => r.fr.length - k) (fun k => k ≤ r.fr.length ∧ ∀ j (hj : j < k) (h3 : n + j < ss.length) (h4 : j < r.fr.length), likeB ss[n + j] r.fr[j] = true) 0 ⟨Nat.zero_le _, fun _ h => absurd h (Nat.not_lt_zero _)⟩ ?_ ?_
      · refine ⟨?_, ⟨rfl, rfl, trivial⟩, rfl, rfl⟩
        ((repeat ((conv => whnf); refine ⟨rfl, ?_⟩)); trivial)
      rintro k ⟨hk, hz⟩
      ((repeat ((conv => whnf); first | refine brT ?_ | refine brF ?_)); conv => whnf)
      (refine ⟨fun h4 => ?_, fun h4 => ?_⟩ <;> rw [h4])
      · have hlt : k < r.fr.length := by rw [ltI_t] at h4; omega
        have hlt2 : n + k < ss.length := by omega
        ((repeat ((conv => whnf); first | refine brT ?_ | refine brF ?_)); conv => whnf)
        refine ⟨k, r.fr[k].lv, rfl, by simp [hlt], rfl, ?_⟩
        ((repeat ((conv => whnf); first | refine brT ?_ | refine brF ?_)); conv => whnf)
        rw [show IntKind.i64.wrap ((n : Int) + (k : Int)) = ((n + k : Nat) : Int) by rw [wrap64 (by omega) (by omega)]; omega]
        refine ⟨n + k, ss[n + k].lv, rfl, by simp [hlt2], rfl, ?_⟩
        ((repeat ((conv => whnf); first | refine brT ?_ | refine brF ?_)); conv => whnf)
        have no : likeB ss[n + k] r.fr[k] = false → false = (likeL r.fr (ss.drop n)) := fun h5 => by
          rw [likeL_no (k := k) (ss := ss.drop n) hlt (by simp; omega) (by simpa using h5)]
        have e := step_i hlt hf'
        have next : likeB ss[n + k] r.fr[k] = true → ∀ j (hj : j < k + 1) (h3 : n + j < ss.length) (h4 : j < r.fr.length), likeB ss[n + j] r.fr[j] = true := fun h5 j hj h6 h7 => by
          by_cases ej : j = k
          · subst ej; exact h5
          · exact hz j (by omega) h6 h7
        (refine ⟨fun h5 => ?_, fun h5 => ?_⟩ <;> rw [h5])
        · rw [notB_t, eqI_comm] at h5
          ((repeat ((conv => whnf); first | refine brT ?_ | refine brF ?_)); conv => whnf)
          exact fin (no (by unfold likeB; rw [h5]; rfl))
        rw [notB_f, eqI_comm] at h5
        ((repeat ((conv => whnf); first | refine brT ?_ | refine brF ?_)); conv => whnf)
        (refine ⟨fun h6 => ?_, fun h6 => ?_⟩ <;> rw [h6])
        · rw [notB_t] at h6
          ((repeat ((conv => whnf); first | refine brT ?_ | refine brF ?_)); conv => whnf)
          (refine ⟨fun h7 => ?_, fun h7 => ?_⟩ <;> rw [h7])
          · rw [notB_t, eqI_comm] at h7
            ((repeat ((conv => whnf); first | refine brT ?_ | refine brF ?_)); conv => whnf)
            exact fin (no (by unfold likeB; rw [h5, h6, h7]; rfl))
          rw [notB_f, eqI_comm] at h7
          ((repeat ((conv => whnf); first | refine brT ?_ | refine brF ?_)); conv => whnf)
          refine round_end (k + 1) ⟨hlt, next (by unfold likeB; rw [h5, h6, h7]; rfl)⟩ (by omega) ⟨?_, ⟨rfl, rfl, trivial⟩, rfl, rfl⟩
          ((repeat ((conv => whnf); first | refine ⟨e, ?_⟩ | refine ⟨rfl, ?_⟩)); trivial)
        rw [notB_f] at h6
        ((repeat ((conv => whnf); first | refine brT ?_ | refine brF ?_)); conv => whnf)
        refine round_end (k + 1) ⟨hlt, next (by unfold likeB; rw [h5, h6]; rfl)⟩ (by omega) ⟨?_, ⟨rfl, rfl, trivial⟩, rfl, rfl⟩
        ((repeat ((conv => whnf); first | refine ⟨e, ?_⟩ | refine ⟨rfl, ?_⟩)); trivial)
      have h5 : k = r.fr.length := by rw [ltI_f] at h4; omega
      subst h5
      ((repeat ((conv => whnf); first | refine brT ?_ | refine brF ?_)); conv => whnf)
      refine fin ?_
      symm
      exact likeL_yes (by simp; omega) fun j hj hs3 => by
        have := hz j hj (by simp at hs3; omega) hj
        simpa using this
end Go.Proofs.Ytpfipmjmblgjfaa

namespace Go.Proofs.Ytpfipmjmblgjfaa
open Go.Lg
set_option maxHeartbeats 1600000
set_option maxRecDepth 10000
set_option linter.unusedVariables false
set_option linter.unusedSimpArgs false

def fitsAtB (r : Rul) (e : Int) (ss : List Pr) (i : Int) : Bool := ruleB r && (typB e ss && fitsB r (egoT e ss) ss i)
end Go.Proofs.Ytpfipmjmblgjfaa
namespace Go.Proofs.Ytpfipmjmblgjfaa
open Go.Lg
set_option maxHeartbeats 1600000
set_option maxRecDepth 10000
set_option linter.unusedVariables false
set_option linter.unusedSimpArgs false

theorem grow_h (n : Nat) (hn : n * 16 ≤ 140737488355328) : HSpec env.P 230 [.nil, .int .i64 (n : Int)] [] (.hs 0 0) [.arr 112 2 []] := by
  refine HSpec_of_code (E := env.x [] 0) env_ok.x (fn := Try.f230) Try.func230 rfl Try.call230 _ _ _ _ ?_
  ((repeat ((conv => whnf); first | refine brT ?_ | refine brF ?_)); conv => whnf)
  (refine ⟨fun h1 => ?_, fun h1 => ?_⟩ <;> rw [h1])
  · rw [ltI_t] at h1; omega
  ((repeat ((conv => whnf); first | refine brT ?_ | refine brF ?_)); conv => whnf)
  have hw : IntKind.i64.wrap ((n : Int) - IntKind.i64.wrap (0 - 0)) = (n : Int) := by
    rw [show IntKind.i64.wrap (0 - 0) = 0 by rw [wrap64 (by omega) (by omega)]; omega, wrap64 (by omega) (by omega)]; omega
  rw [hw]
  (refine ⟨fun h2 => ?_, fun h2 => ?_⟩ <;> rw [h2])
  · rw [ltI_t] at h2
    ((repeat ((conv => whnf); first | refine brT ?_ | refine brF ?_)); conv => whnf)
    refine ⟨rfl, rfl, ?_⟩
    ((repeat ((conv => whnf); first | refine brT ?_ | refine brF ?_)); conv => whnf)
    refine ⟨n, rfl, by omega, by unfold Go.maxLen; omega, hn, rfl, by decide, _, rfl, ?_⟩
    ((repeat ((conv => whnf); first | refine brT ?_ | refine brF ?_)); conv => whnf)
    refine ⟨by simp, 0, rfl, rfl, Nat.zero_le _, [], by simp, ?_⟩
    ((repeat ((conv => whnf); first | refine brT ?_ | refine brF ?_)); conv => whnf)
    exact ⟨[.hs 0 0], by simp [tupOf], rfl, .inr ⟨[.old 1], ⟨rfl, rfl, trivial⟩, ⟨rfl, rfl, trivial⟩, rfl⟩⟩
  · rw [ltI_f] at h2
    have : n = 0 := by omega
    subst this
    ((repeat ((conv => whnf); first | refine brT ?_ | refine brF ?_)); conv => whnf)
    exact ⟨[.hs 0 0], by simp [tupOf], rfl, .nl [.tmp 0 [] false 112 2] [.old 0] ⟨⟨rfl, rfl, trivial⟩, ⟨rfl, rfl, trivial⟩, rfl⟩⟩
def slL (ss : List Pr) : LV := .sl (ss.map Pr.lv)
theorem flat_take_succ {xss : List (List Pr)} {k : Nat} (h : k < xss.length) : (xss.take (k + 1)).flatten = (xss.take k).flatten ++ xss[k] := by
  rw [List.take_succ_eq_append_getElem h, List.flatten_append]; simp
theorem flat_take_le (xss : List (List Pr)) (k : Nat) : (xss.take k).flatten.length ≤ xss.flatten.length := by
  conv => rhs; rw [← List.take_append_drop k xss]
  rw [List.flatten_append, List.length_append]; omega
theorem concat_h (xss : List (List Pr)) (hn : xss.flatten.length * 16 ≤ 140737488355328) : HSpec env.P 209 [.sl (xss.map slL)] [] (.hs 0 (xss.flatten.map Pr.lv).length) [.arr 112 2 (xss.flatten.map Pr.lv)] := by
  refine HSpec_of_code (E := env.x [230] 0) env_ok.x (fn := Try.f209) Try.func209 rfl Try.call209 _ _ _ _ ?_
  ((repeat ((conv => whnf); first | refine brT ?_ | refine brF ?_)); conv => whnf)
  intro hm
  rw [List.length_map] at hm ⊢
  ((repeat ((conv => whnf); first | refine brT ?_ | refine brF ?_)); conv => whnf)
  refine loop_rule (α := Nat) (fun k => [(11, .int .i64 (k : Int)), (3, .int .i64 (((xss.take k).flatten.length : Nat) : Int))]) (fun _ => []) (fun k => xss.length - k) (fun k => k ≤ xss.length) 0 (Nat.zero_le _) ?_ ?_
  · refine ⟨?_, trivial, rfl, rfl⟩
    ((repeat ((conv => whnf); refine ⟨rfl, ?_⟩)); trivial)
  rintro k hk
  ((repeat ((conv => whnf); first | refine brT ?_ | refine brF ?_)); conv => whnf)
  (refine ⟨fun h1 => ?_, fun h1 => ?_⟩ <;> rw [h1])
  · have hlt : k < xss.length := by rw [ltI_t] at h1; omega
    have hle := flat_take_le xss (k + 1)
    have hs := flat_take_succ hlt
    have hle2 := hle
    rw [hs, List.length_append] at hle2
    ((repeat ((conv => whnf); first | refine brT ?_ | refine brF ?_)); conv => whnf)
    refine ⟨k, slL xss[k], rfl, by simp [hlt], rfl, ?_⟩
    ((repeat ((conv => whnf); first | refine brT ?_ | refine brF ?_)); conv => whnf)
    intro hm2
    have el : (xss[k].map Pr.lv).length = xss[k].length := List.length_map ..
    rw [el]
    ((repeat ((conv => whnf); first | refine brT ?_ | refine brF ?_)); conv => whnf)
    have e2 : IntKind.i64.wrap ((((xss.take k).flatten.length : Nat) : Int) + ((xss[k].length : Nat) : Int)) = (((xss.take (k + 1)).flatten.length : Nat) : Int) := by
      rw [wrap64 (by omega) (by omega), hs, List.length_append]; omega
    rw [e2]
    (refine ⟨fun h2 => ?_, fun h2 => ?_⟩ <;> rw [h2])
    · rw [ltI_t] at h2; omega
    ((repeat ((conv => whnf); first | refine brT ?_ | refine brF ?_)); conv => whnf)
    refine round_end (k + 1) hlt (by omega) ⟨?_, trivial, rfl, rfl⟩
    have e := step_i hlt hm
    ((repeat ((conv => whnf); first | refine ⟨e, ?_⟩ | refine ⟨rfl, ?_⟩)); trivial)
  have h4 : k = xss.length := by rw [ltI_f] at h1; omega
  subst h4
  rw [List.take_length]
  ((repeat ((conv => whnf); first | refine brT ?_ | refine brF ?_)); conv => whnf)
  refine ⟨[], _, _, _, _, grow_h xss.flatten.length hn, rfl, rfl, rfl, trivial, ?_⟩
  ((repeat ((conv => whnf); first | refine brT ?_ | refine brF ?_)); conv => whnf)
  intro hm3
  rw [List.length_map]
  ((repeat ((conv => whnf); first | refine brT ?_ | refine brF ?_)); conv => whnf)
  refine loop_rule (α := Nat) (fun k => [(27, .int .i64 (k : Int)), (24, .undef), (6, .hs 0 ((xss.take k).flatten.map Pr.lv).length)]) (fun k => [.arr 112 2 ((xss.take k).flatten.map Pr.lv)]) (fun k => xss.length - k) (fun k => k ≤ xss.length) 0 (Nat.zero_le _) ?_ ?_
  · refine ⟨?_, ⟨rfl, trivial⟩, rfl, rfl⟩
    ((repeat ((conv => whnf); refine ⟨rfl, ?_⟩)); trivial)
  rintro k hk
  ((repeat ((conv => whnf); first | refine brT ?_ | refine brF ?_)); conv => whnf)
  (refine ⟨fun h2 => ?_, fun h2 => ?_⟩ <;> rw [h2])
  · have hlt : k < xss.length := by rw [ltI_t, List.length_map] at h2; omega
    have hle := flat_take_le xss (k + 1)
    have hs := flat_take_succ hlt
    have e2 : ((xss.take k).flatten.map Pr.lv ++ xss[k].map Pr.lv) = (xss.take (k + 1)).flatten.map Pr.lv := by rw [hs, List.map_append]
    have e3 : LV.hs 0 ((xss.take k).flatten.map Pr.lv ++ xss[k].map Pr.lv).length = LV.hs 0 ((xss.take (k + 1)).flatten.map Pr.lv).length := by rw [e2]
    ((repeat ((conv => whnf); first | refine brT ?_ | refine brF ?_)); conv => whnf)
    refine ⟨k, slL xss[k], rfl, by simp [hlt], rfl, ?_⟩
    ((repeat ((conv => whnf); first | refine brT ?_ | refine brF ?_)); conv => whnf)
    refine ⟨fun y hy => ?_, rfl, ?_, ?_, ?_⟩
    · obtain ⟨p, _, rfl⟩ := List.mem_map.1 hy; rfl
    · rw [e2, List.length_map]; unfold Go.maxLen; omega
    · rw [e2, List.length_map]; show _ * 16 ≤ _; omega
    ((repeat ((conv => whnf); first | refine brT ?_ | refine brF ?_)); conv => whnf)
    refine round_endR [.old 1] (k + 1) hlt (by omega) ⟨?_, ⟨rfl, congrArg (Blk.arr 112 2) e2, trivial⟩, rfl⟩
    have e := step_i hlt hm
    (repeat ((conv => whnf); first | refine ⟨rfl, e, ?_⟩ | refine ⟨rfl, e3, ?_⟩ | refine ⟨rfl, rfl, ?_⟩))
    trivial
  have h5 : k = xss.length := by rw [ltI_f, List.length_map] at h2; omega
  subst h5
  rw [List.take_length]
  ((repeat ((conv => whnf); first | refine brT ?_ | refine brF ?_)); conv => whnf)
  exact ⟨[.hs 0 (xss.flatten.map Pr.lv).length], by rw [List.length_map]; rfl, rfl, .inl ⟨⟨rfl, trivial⟩, ⟨rfl, trivial⟩, rfl, rfl⟩⟩
theorem concat_f (xss : List (List Pr)) (hn : xss.flatten.length * 16 ≤ 140737488355328) : FSpec env.P 209 [.sl (xss.map slL)] (.own 112 2 (xss.flatten.map Pr.lv)) :=
  FSpec_of_HSpec (concat_h xss hn) (by simp only [exW]; exact ⟨rfl, rfl, rfl, rfl, by simp⟩)
end Go.Proofs.Ytpfipmjmblgjfaa

namespace Go.Proofs.Ytpfipmjmblgjfaa
open Go.Lg
set_option maxHeartbeats 1600000
set_option maxRecDepth 10000
set_option linter.unusedVariables false
set_option linter.unusedSimpArgs false

/-- Two types that cannot be joined. -/
def refJ (e : Int) (ss : List Pr) (f : Int) (ts : List Pr) : Bool := notB (typB e ss) || (notB (typB f ts) || (notB (eqI f 0) && (notB (eqI (lastT e ss) 0) && notB (eqI f (lastT e ss)))))
def egoJ (e : Int) (ss : List Pr) (f : Int) : Int := match eqI e 0 with | true => (match eqI (ss.length : Int) 0 with | true => f | false => e) | false => e
def okJ (e : Int) (ss : List Pr) (f : Int) (ts : List Pr) : Bool := notB (refJ e ss f ts) && typB (egoJ e ss f) (ss ++ ts)
def joinE (e : Int) (ss : List Pr) (f : Int) (ts : List Pr) : Int := match okJ e ss f ts with | true => egoJ e ss f | false => 0
def joinL (e : Int) (ss : List Pr) (f : Int) (ts : List Pr) : List Pr := match okJ e ss f ts with | true => ss ++ ts | false => []
def joinLV (e : Int) (ss : List Pr) (f : Int) (ts : List Pr) : LV := .tup [.st [.int .i64 (joinE e ss f ts), .own 112 2 ((joinL e ss f ts).map Pr.lv)], .bool (okJ e ss f ts)]
theorem joinLV_no {e : Int} {ss : List Pr} {f : Int} {ts : List Pr} (h : okJ e ss f ts = false) : joinLV e ss f ts = .tup [.st [.int .i64 0, .own 112 2 []], .bool false] := by
  unfold joinLV joinE joinL; rw [h]; rfl
theorem joinLV_yes {e : Int} {ss : List Pr} {f : Int} {ts : List Pr} (h : okJ e ss f ts = true) : joinLV e ss f ts = .tup [.st [.int .i64 (egoJ e ss f), .own 112 2 ((ss ++ ts).map Pr.lv)], .bool true] := by
  unfold joinLV joinE joinL; rw [h]
theorem okJ_ref {e : Int} {ss : List Pr} {f : Int} {ts : List Pr} (h : refJ e ss f ts = true) : okJ e ss f ts = false := by unfold okJ; rw [h]; simp [notB]
theorem prSzJ (ss : List Pr) : ∀ y ∈ ss.map Pr.lv, y.size = 2 := fun y hy => by obtain ⟨p, _, rfl⟩ := List.mem_map.1 hy; rfl
end Go.Proofs.Ytpfipmjmblgjfaa
namespace Go.Proofs.Ytpfipmjmblgjfaa
open Go.Lg
set_option maxHeartbeats 1600000
set_option maxRecDepth 10000
set_option linter.unusedVariables false
set_option linter.unusedSimpArgs false

theorem concat2_h (ss ts : List Pr) (h : (ss ++ ts).length * 16 ≤ 140737488355328) : HSpec env.P 209 [.sl [.sl (ss.map Pr.lv), .sl (ts.map Pr.lv)]] [] (.hs 0 ((ss ++ ts).map Pr.lv).length) [.arr 112 2 ((ss ++ ts).map Pr.lv)] := by
  have e : [ss, ts].flatten = ss ++ ts := by simp
  have := concat_h [ss, ts] (by rw [e]; exact h)
  rw [e] at this
  exact this
theorem sxOf_pos (k : Int) : sxOf k ≠ 0 := by unfold sxOf; split <;> decide
theorem egoJ_last (e : Int) (ss : List Pr) (f : Int) : egoJ e ss f = match eqI (lastT e ss) 0 with | true => f | false => e := by
  unfold egoJ
  by_cases h : 0 < ss.length
  · have h1 : eqI (ss.length : Int) 0 = false := by rw [eqI_f]; omega
    have h2 : eqI (lastT e ss) 0 = false := by rw [lastT_at h, eqI_f]; exact sxOf_pos _
    rw [h1, h2]
    cases eqI e 0 <;> rfl
  · have : ss = [] := List.eq_nil_of_length_eq_zero (by omega)
    subst this
    have h1 : eqI (([] : List Pr).length : Int) 0 = true := by rw [eqI_t]; rfl
    have h2 : lastT e [] = e := rfl
    rw [h1, h2]
    all_goals (cases eqI e 0 <;> rfl)
def joinHS (e : Int) (ss : List Pr) (f : Int) (ts : List Pr) : LV := .tup [typHS (joinE e ss f ts) 0 ((joinL e ss f ts).map Pr.lv).length, .bool (okJ e ss f ts)]
theorem joinHS_no {e : Int} {ss : List Pr} {f : Int} {ts : List Pr} (h : okJ e ss f ts = false) : joinHS e ss f ts = .tup [typHS 0 0 0, .bool false] ∧ joinL e ss f ts = [] := by
  have e1 : joinL e ss f ts = [] := by unfold joinL; rw [h]
  refine ⟨?_, e1⟩
  unfold joinHS joinE; rw [h, e1]; rfl
theorem joinHS_yes {e : Int} {ss : List Pr} {f : Int} {ts : List Pr} (h : okJ e ss f ts = true) : joinHS e ss f ts = .tup [typHS (egoJ e ss f) 0 ((ss ++ ts).map Pr.lv).length, .bool true] ∧ joinL e ss f ts = ss ++ ts := by
  have e1 : joinL e ss f ts = ss ++ ts := by unfold joinL; rw [h]
  refine ⟨?_, e1⟩
  unfold joinHS joinE; rw [h, e1]
end Go.Proofs.Ytpfipmjmblgjfaa
namespace Go.Proofs.Ytpfipmjmblgjfaa
open Go.Lg
set_option maxHeartbeats 1600000
set_option maxRecDepth 10000
set_option linter.unusedVariables false
set_option linter.unusedSimpArgs false

def rulHS (r : Rul) (a m b n : Nat) : LV := .st [.str r.name, .int .i64 r.sex, .int .i64 r.place, .hs a m, .hs b n]
theorem toRule_h (r : Rul) (h1 : 16 * r.fr.length ≤ 281474976710656) (h2 : 16 * r.to.length ≤ 281474976710656) : HSpec env.P 79 [r.lv] [] (rulHS r 0 (r.fr.map Pr.lv).length 1 (r.to.map Pr.lv).length) [.arr 112 2 (r.fr.map Pr.lv), .arr 112 2 (r.to.map Pr.lv)] := by
  refine HSpec_of_code (E := env.x [112] 0) env_ok.x (fn := Try.f79) Try.func79 rfl Try.call79 _ _ _ _ ?_
  ((repeat ((conv => whnf); first | refine brT ?_ | refine brF ?_)); conv => whnf)
  refine ⟨[], _, _, _, _, toStepS_h r.fr h1, rfl, rfl, rfl, trivial, ?_⟩
  ((repeat ((conv => whnf); first | refine brT ?_ | refine brF ?_)); conv => whnf)
  refine ⟨[], _, _, _, _, toStepS_h r.to h2, rfl, rfl, rfl, trivial, ?_⟩
  ((repeat ((conv => whnf); first | refine brT ?_ | refine brF ?_)); conv => whnf)
  refine ⟨[rulHS r 0 (r.fr.map Pr.lv).length 1 (r.to.map Pr.lv).length], rfl, rfl, .inr ⟨[.old 3, .old 4], ?_, ?_, rfl⟩⟩
  · ((repeat ((conv => whnf); refine ⟨rfl, rfl, ?_⟩)); trivial)
  · exact ⟨rfl, rfl, rfl, rfl, trivial⟩
theorem markRule_spec (r : Rul) (m n : Nat) (hm : m = (r.fr.map Pr.lv).length) (hn : n = (r.to.map Pr.lv).length) (k : Nat) (h1 : k + 2 * r.fr.length + 2 * r.to.length ≤ 2305843009213693952) :
    HSpec env.P 84 [rulHS r 0 m 1 n, .int .i64 (k : Int)] [.arr 112 2 (r.fr.map Pr.lv), .arr 112 2 (r.to.map Pr.lv)] (.int .i64 ((k + 2 * r.fr.length + 2 * r.to.length : Nat) : Int))
      [.arr 112 2 ((markPrs k r.fr.length).map Pr.lv), .arr 112 2 ((markPrs (k + 2 * r.fr.length) r.to.length).map Pr.lv)] := by
  refine HSpec_of_code (E := env.x [119] 2) env_ok.x (fn := Try.f84) Try.func84 rfl Try.call84 _ _ _ _ ?_
  ((repeat ((conv => whnf); first | refine brT ?_ | refine brF ?_)); conv => whnf)
  refine ⟨[0], _, _, _, _, markStepS_spec r.fr m hm k (by omega), rfl, rfl, rfl, trivial, ?_⟩
  ((repeat ((conv => whnf); first | refine brT ?_ | refine brF ?_)); conv => whnf)
  refine ⟨[1], _, _, _, _, markStepS_spec r.to n hn (k + 2 * r.fr.length) (by omega), rfl, rfl, rfl, trivial, ?_⟩
  ((repeat ((conv => whnf); first | refine brT ?_ | refine brF ?_)); conv => whnf)
  exact ⟨[.int .i64 ((k + 2 * r.fr.length + 2 * r.to.length : Nat) : Int)], rfl, rfl, .inl ⟨⟨rfl, trivial⟩, ⟨rfl, rfl, trivial⟩, rfl, rfl⟩⟩
def replS (r : Rul) (ss : List Pr) (n : Nat) : List Pr := ss.take n ++ (r.to ++ ss.drop (n + r.fr.length))
theorem drop_take_all {α : Type} (xs : List α) (m : Nat) : (xs.drop m).take (xs.length - m) = xs.drop m := List.take_of_length_le (by simp)
theorem concat3_h (xs ys zs : List Pr) (h : (xs ++ (ys ++ zs)).length * 16 ≤ 140737488355328) : HSpec env.P 209 [.sl [.sl (xs.map Pr.lv), .sl (ys.map Pr.lv), .sl (zs.map Pr.lv)]] [] (.hs 0 ((xs ++ (ys ++ zs)).map Pr.lv).length) [.arr 112 2 ((xs ++ (ys ++ zs)).map Pr.lv)] := by
  have e : [xs, ys, zs].flatten = xs ++ (ys ++ zs) := by simp
  have := concat_h [xs, ys, zs] (by rw [e]; exact h)
  rw [e] at this
  exact this
theorem replaced_h (r : Rul) (e : Int) (ss : List Pr) (n : Nat) (hn : n + r.fr.length ≤ ss.length) (hl : ss.length ≤ Go.maxLen) (hb : (replS r ss n).length * 16 ≤ 140737488355328) :
    HSpec env.P 180 [r.lv, typLV e ss, .int .i64 (n : Int)] [] (typHS e 0 ((replS r ss n).map Pr.lv).length) [.arr 112 2 ((replS r ss n).map Pr.lv)] := by
  refine HSpec_of_code (E := env.x [209] 0) env_ok.x (fn := Try.f180) Try.func180 rfl Try.call180 _ _ _ _ ?_
  have hl' := hl
  unfold Go.maxLen at hl
  have sz : ∀ x ∈ ss.map Pr.lv, x.size = 2 := fun x hx => by obtain ⟨p, _, rfl⟩ := List.mem_map.1 hx; rfl
  ((repeat ((conv => whnf); first | refine brT ?_ | refine brF ?_)); conv => whnf)
  refine ⟨false, 0, 0, 1, [0, 1, 2, 3, 4, 5, 6, 7, 8, 9, 10, 11, 12, 13, 14, 15], (.one 16 (.one 17 (.one 18 (.one 19 .done)))), by kernel_rfl, by kernel_rfl, ?_⟩
  ((repeat ((conv => whnf); first | refine brT ?_ | refine brF ?_)); conv => whnf)
  refine ⟨0, n, rfl, rfl, Nat.zero_le _, by simp; omega, sz, ?_⟩
  ((repeat ((conv => whnf); first | refine brT ?_ | refine brF ?_)); conv => whnf)
  intro hf
  have elf : (r.fr.map Pr.lv).length = r.fr.length := List.length_map ..
  ((repeat ((conv => whnf); first | refine brT ?_ | refine brF ?_)); conv => whnf)
  rw [elf]
  rw [show IntKind.i64.wrap ((n : Int) + (r.fr.length : Int)) = ((n + r.fr.length : Nat) : Int) by rw [wrap64 (by omega) (by omega)]; omega]
  refine ⟨n + r.fr.length, (ss.map Pr.lv).length, rfl, rfl, by simp; omega, Nat.le_refl _, sz, ?_⟩
  rw [drop_take_all, List.drop_zero, Nat.sub_zero, ← List.map_take, ← List.map_drop]
  ((repeat ((conv => whnf); first | refine brT ?_ | refine brF ?_)); conv => whnf)
  apply Exists.intro
  apply Exists.intro
  refine And.intro ?_ ?_
  · refine ⟨_, _, _, _, concat3_h (ss.take n) r.to (ss.drop (n + r.fr.length)) hb, rfl, rfl, rfl, rfl, ⟨rfl, flats_prs _, trivial⟩, ?_⟩
    ((repeat ((conv => whnf); first | refine brT ?_ | refine brF ?_)); conv => whnf)
    refine Weak.idn ?_ ?_ rfl
    · ((repeat ((conv => whnf); refine ⟨rfl, ?_⟩)); trivial)
    · exact ⟨rfl, rfl, rfl, rfl, rfl, trivial⟩
  · ((repeat ((conv => whnf); first | refine brT ?_ | refine brF ?_)); conv => whnf)
    exact ⟨[typHS e 0 ((replS r ss n).map Pr.lv).length], rfl, rfl, .inr ⟨[.old 4], ⟨rfl, rfl, trivial⟩, ⟨rfl, rfl, trivial⟩, rfl⟩⟩
end Go.Proofs.Ytpfipmjmblgjfaa

namespace Go.Proofs.Ytpfipmjmblgjfaa
open Go.Lg
set_option maxHeartbeats 1600000
set_option maxRecDepth 10000
set_option linter.unusedVariables false
set_option linter.unusedSimpArgs false

/-! A number of a type that falls with each replacement. -/
def dg (p : Pr) : Nat := (3 * p.a + p.b).toNat
def okP (p : Pr) : Prop := 1 ≤ p.a ∧ p.a ≤ 8 ∧ 0 ≤ p.b ∧ p.b ≤ 2
def wv : List Pr → Nat
  | [] => 0
  | p :: ps => dg p * 32 ^ ps.length + wv ps
def muT (ss : List Pr) : Nat := 32 ^ ss.length + wv ss
theorem pw_pos (n : Nat) : 0 < 32 ^ n := Nat.pow_pos (by decide)
theorem dg_le {p : Pr} (h : okP p) : dg p ≤ 26 := by unfold okP at h; unfold dg; omega
theorem wv_lt : ∀ {ss : List Pr}, (∀ p ∈ ss, okP p) → wv ss < 32 ^ ss.length
  | [], _ => by simp [wv]
  | p :: ps, h => by
    have h1 := wv_lt (ss := ps) fun x hx => h x (by simp [hx])
    have h2 := dg_le (h p (by simp))
    simp only [wv, List.length_cons, Nat.pow_succ]
    have h3 : dg p * 32 ^ ps.length ≤ 26 * 32 ^ ps.length := Nat.mul_le_mul_right _ h2
    omega
theorem wv_app : ∀ (a b : List Pr), wv (a ++ b) = wv a * 32 ^ b.length + wv b
  | [], b => by simp [wv]
  | p :: a, b => by
    simp only [List.cons_append, wv, wv_app a b, List.length_append, Nat.pow_add, Nat.add_mul, Nat.mul_assoc, Nat.add_assoc]
theorem wv_bef : ∀ {to fr m : List Pr}, to.length = fr.length → fr.length = m.length → befL to fr = true → likeL fr m = true → (∀ p ∈ to, okP p) → (∀ p ∈ m, okP p) → wv to < wv m
  | [], fr, m, h1, h2, hb, _, _, _ => by
    cases fr with
    | nil => simp [befL] at hb
    | cons _ _ => simp at h1
  | p :: ps, [], m, h1, _, _, _, _, _ => by simp at h1
  | p :: ps, q :: qs, [], _, h2, _, _, _, _ => by simp at h2
  | p :: ps, q :: qs, s :: ms, h1, h2, hb, hl, ho, hm => by
    have l1 : ps.length = qs.length := by simpa using h1
    have l2 : qs.length = ms.length := by simpa using h2
    simp only [likeL, Bool.and_eq_true] at hl
    obtain ⟨hl1, hl2⟩ := hl
    have hop := ho p (by simp)
    have hos := hm s (by simp)
    have hps : ∀ x ∈ ps, okP x := fun x hx => ho x (by simp [hx])
    have hms : ∀ x ∈ ms, okP x := fun x hx => hm x (by simp [hx])
    have hlt := wv_lt hps
    simp only [wv]
    rw [show ms.length = ps.length by omega]
    simp only [likeB, Bool.and_eq_true, Bool.or_eq_true, eqI_t] at hl1
    obtain ⟨ha, hbb⟩ := hl1
    simp only [befL] at hb
    have lt_case : dg p < dg s → dg p * 32 ^ ps.length + wv ps < dg s * 32 ^ ps.length + wv ms := fun hd => by
      have : (dg p + 1) * 32 ^ ps.length ≤ dg s * 32 ^ ps.length := Nat.mul_le_mul_right _ hd
      rw [Nat.add_mul, Nat.one_mul] at this
      omega
    unfold okP at hop hos
    cases e1 : eqI p.a q.a <;> rw [e1] at hb <;> simp only at hb
    · rw [ltI_t] at hb
      exact lt_case (by unfold dg; omega)
    · rw [eqI_t] at e1
      cases e2 : eqI p.b q.b <;> rw [e2] at hb <;> simp only at hb
      · rw [ltI_t] at hb
        exact lt_case (by unfold dg; omega)
      · rw [eqI_t] at e2
        have ih := wv_bef l1 l2 hb hl2 hps hms
        have hd : dg p ≤ dg s := by unfold dg; omega
        have : dg p * 32 ^ ps.length ≤ dg s * 32 ^ ps.length := Nat.mul_le_mul_right _ hd
        omega
theorem mu_lt {pre to fr m post : List Pr} (hlen : fr.length = m.length) (hb : befP to fr = true) (hl : likeL fr m = true) (h1 : ∀ p ∈ pre, okP p) (h2 : ∀ p ∈ to, okP p) (h3 : ∀ p ∈ m, okP p) (h4 : ∀ p ∈ post, okP p) :
    muT (pre ++ (to ++ post)) < muT (pre ++ (m ++ post)) := by
  unfold befP at hb
  cases e : eqI (to.length : Int) fr.length <;> rw [e] at hb <;> simp only at hb
  · rw [ltI_t] at hb
    have hall : ∀ p ∈ pre ++ (to ++ post), okP p := by
      intro p hp
      simp only [List.mem_append] at hp
      rcases hp with hp | hp | hp
      · exact h1 p hp
      · exact h2 p hp
      · exact h4 p hp
    have hw := wv_lt hall
    unfold muT
    have hL : (pre ++ (to ++ post)).length + 1 ≤ (pre ++ (m ++ post)).length := by simp; omega
    have hp := Nat.pow_le_pow_right (n := 32) (by decide) hL
    rw [Nat.pow_succ] at hp
    omega
  · rw [eqI_t] at e
    have hw := wv_bef (by omega) hlen hb hl h2 h3
    unfold muT
    rw [show (pre ++ (to ++ post)).length = (pre ++ (m ++ post)).length by simp; omega, wv_app pre, wv_app to, wv_app pre, wv_app m]
    rw [show (to ++ post).length = (m ++ post).length by simp; omega]
    have : (wv to + 1) * 32 ^ post.length ≤ wv m * 32 ^ post.length := Nat.mul_le_mul_right _ hw
    rw [Nat.add_mul, Nat.one_mul] at this
    have := pw_pos post.length
    omega
theorem likeL_take : ∀ {fr ss : List Pr}, likeL fr ss = true → likeL fr (ss.take fr.length) = true
  | [], _, _ => rfl
  | p :: ps, [], h => by simp [likeL] at h
  | p :: ps, s :: ss, h => by
    simp only [likeL, Bool.and_eq_true] at h
    simp only [List.length_cons, List.take_succ_cons, likeL, Bool.and_eq_true]
    exact ⟨h.1, likeL_take h.2⟩
theorem step_okP {k g x : Int} (h : stepB k g x = true) : 1 ≤ k ∧ k ≤ 8 ∧ 0 ≤ g ∧ g ≤ 2 := by
  unfold stepB at h
  simp only [Bool.or_eq_true, Bool.and_eq_true, eqI_t] at h
  omega
theorem typB_okP {e : Int} {ss : List Pr} (h : typB e ss = true) : ∀ p ∈ ss, okP p := by
  intro p hp
  obtain ⟨i, hi, rfl⟩ := List.getElem_of_mem hp
  unfold typB stepsTo at h
  simp only [Bool.and_eq_true, List.all_eq_true, List.mem_range] at h
  have := h.2.2 i hi
  rw [List.getElem?_eq_getElem hi] at this
  exact step_okP this
theorem ruleB_okP {r : Rul} (h : ruleB r = true) : befP r.to r.fr = true ∧ ∀ p ∈ r.to, okP p := by
  unfold ruleB keepB at h
  simp only [Bool.and_eq_true] at h
  obtain ⟨_, _, _, hb, hk1, hk2⟩ := h
  refine ⟨hb, ?_⟩
  rw [List.any_eq_true] at hk2
  obtain ⟨s, hs, ht⟩ := hk2
  rw [List.all_eq_true] at hk1
  have h3 := hk1 s hs
  unfold okS at h3
  rw [ht] at h3
  simp only [Bool.not_true, Bool.false_or, Bool.and_eq_true] at h3
  exact typB_okP h3.1
theorem red_lt {r : Rul} {g : Int} {ss : List Pr} {i : Nat} (hr : ruleB r = true) (hf : fitsB r g ss (i : Int) = true) (ho : ∀ p ∈ ss, okP p) :
    muT (replS r ss i) < muT ss ∧ ∀ p ∈ replS r ss i, okP p := by
  obtain ⟨hb, hto⟩ := ruleB_okP hr
  unfold fitsB at hf
  simp only [Bool.and_eq_true, leI_t] at hf
  obtain ⟨⟨_, h2⟩, _, hl, _⟩ := hf
  rw [Int.toNat_natCast] at hl
  have hle : i + r.fr.length ≤ ss.length := by omega
  have e : ss = ss.take i ++ ((ss.drop i).take r.fr.length ++ ss.drop (i + r.fr.length)) := by
    rw [← List.drop_drop, List.take_append_drop, List.take_append_drop]
  have k1 : ∀ p ∈ ss.take i, okP p := fun p hp => ho p (List.mem_of_mem_take hp)
  have k3 : ∀ p ∈ (ss.drop i).take r.fr.length, okP p := fun p hp => ho p (List.mem_of_mem_drop (List.mem_of_mem_take hp))
  have k4 : ∀ p ∈ ss.drop (i + r.fr.length), okP p := fun p hp => ho p (List.mem_of_mem_drop hp)
  refine ⟨?_, ?_⟩
  · have := mu_lt (pre := ss.take i) (post := ss.drop (i + r.fr.length)) (m := (ss.drop i).take r.fr.length) (by simp; omega) hb (likeL_take hl) k1 hto k3 k4
    rw [← e] at this
    exact this
  · intro p hp
    unfold replS at hp
    simp only [List.mem_append] at hp
    rcases hp with hp | hp | hp
    · exact k1 p hp
    · exact hto p hp
    · exact k4 p hp
end Go.Proofs.Ytpfipmjmblgjfaa
