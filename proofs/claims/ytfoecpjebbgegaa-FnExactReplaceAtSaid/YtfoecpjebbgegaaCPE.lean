/- Contracts of functions of the program and of its model, told over readings. -/
import Derived.Test.YtfoecpjebbgegaaCPD
namespace Go.Proofs.Ytfoecpjebbgegaa
open Go.Lg
set_option maxHeartbeats 3200000
set_option maxRecDepth 10000
set_option linter.unusedVariables false
set_option linter.unusedSimpArgs false

theorem l4Fits_spec (r : Rul) (e : Int) (ss : List Pr) (i : Int) : FSpec env.P 91 [r.lv, typLV e ss, .int .i64 i] (.bool (fitsB r (egoT e ss) ss i)) := by
  refine FSpec_of_code env_ok (fn := Try.f91) Try.func91 rfl Try.call91 _ _ ?_
  ((repeat ((conv => whnf); first | refine brT ?_ | refine brF ?_)); conv => whnf)
  intro hf
  rw [List.length_map] at hf ⊢
  ((repeat ((conv => whnf); first | refine brT ?_ | refine brF ?_)); conv => whnf)
  (refine ⟨fun h1 => ?_, fun h1 => ?_⟩ <;> rw [h1])
  · ((repeat ((conv => whnf); first | refine brT ?_ | refine brF ?_)); conv => whnf)
    exact fin (by unfold fitsB; rw [show leI 0 i = false by rw [leI_f]; rw [ltI_t] at h1; omega]; rfl)
  rw [ltI_f] at h1
  ((repeat ((conv => whnf); first | refine brT ?_ | refine brF ?_)); conv => whnf)
  intro hs
  rw [List.length_map] at hs ⊢
  have hs' := hs
  have hf' := hf
  unfold Go.maxLen at hs hf
  ((repeat ((conv => whnf); first | refine brT ?_ | refine brF ?_)); conv => whnf)
  rw [show IntKind.i64.wrap ((ss.length : Int) - (r.fr.length : Int)) = (ss.length : Int) - r.fr.length from wrap64 (by omega) (by omega)]
  (refine ⟨fun h2 => ?_, fun h2 => ?_⟩ <;> rw [h2])
  · ((repeat ((conv => whnf); first | refine brT ?_ | refine brF ?_)); conv => whnf)
    exact fin (by unfold fitsB; rw [show leI i ((ss.length : Int) - r.fr.length) = false by rw [leI_f]; rw [ltI_t] at h2; omega, Bool.and_false]; rfl)
  rw [ltI_f] at h2
  obtain ⟨n, rfl⟩ : ∃ n : Nat, i = (n : Int) := ⟨i.toNat, by omega⟩
  have h12 : (leI 0 (n : Int) && leI (n : Int) ((ss.length : Int) - r.fr.length)) = true := by rw [Bool.and_eq_true, leI_t, leI_t]; omega
  have hfit : fitsB r (egoT e ss) ss (n : Int) = ((eqI r.sex 0 || eqI r.sex (sexAt (egoT e ss) ss n)) && (likeL r.fr (ss.drop n) && plB r.place n (n + r.fr.length) ss.length)) := by
    unfold fitsB; rw [h12, Bool.true_and, Int.toNat_natCast]
  rw [hfit]
  have hnl : n ≤ ss.length := by omega
  have hend : IntKind.i64.wrap ((n : Int) + (r.fr.length : Int)) = (n : Int) + r.fr.length := wrap64 (by omega) (by omega)
  clear hfit h12
  ((repeat ((conv => whnf); first | refine brT ?_ | refine brF ?_)); conv => whnf)
  (refine ⟨fun p1 => ?_, fun p1 => ?_⟩ <;> rw [p1])
  · ((repeat ((conv => whnf); first | refine brT ?_ | refine brF ?_)); conv => whnf)
    (refine ⟨fun p2 => ?_, fun p2 => ?_⟩ <;> rw [p2])
    · rw [notB_t] at p2
      ((repeat ((conv => whnf); first | refine brT ?_ | refine brF ?_)); conv => whnf)
      exact fin (by rw [show plB r.place n (n + r.fr.length) ss.length = false by unfold plB; rw [p1]; exact p2]; simp)
    rw [notB_f] at p2
    have p3 : eqI r.place 2 = false := by rw [eqI_t] at p1; rw [eqI_f]; omega
    rw [show plB r.place n (n + r.fr.length) ss.length = true by unfold plB; rw [p1]; exact p2, Bool.and_true]
    ((repeat ((conv => whnf); first | refine brT ?_ | refine brF ?_)); conv => whnf)
    rw [p3]
    ((repeat ((conv => whnf); first | refine brT ?_ | refine brF ?_)); conv => whnf)
    refine ⟨_, l3Ego_spec e ss, ?_⟩
    ((repeat ((conv => whnf); first | refine brT ?_ | refine brF ?_)); conv => whnf)
    (refine ⟨fun q1 => ?_, fun q1 => ?_⟩ <;> rw [q1])
    · have hn0 : 0 < n := by rw [ltI_t] at q1; omega
      have hm : n - 1 < ss.length := by omega
      have hsx : sexAt (egoT e ss) ss n = sxOf (ss[n - 1]'hm).a := by
        obtain ⟨m, rfl⟩ : ∃ m, n = m + 1 := ⟨n - 1, by omega⟩
        have hm2 : m < ss.length := by omega
        simp [sexAt, hm2]
      rw [hsx]
      ((repeat ((conv => whnf); first | refine brT ?_ | refine brF ?_)); conv => whnf)
      rw [show IntKind.i64.wrap ((n : Int) - 1) = ((n - 1 : Nat) : Int) by rw [wrap64 (by omega) (by omega)]; omega]
      refine ⟨n - 1, (ss[n - 1]'hm).lv, rfl, by simp [hm], rfl, ?_⟩
      ((repeat ((conv => whnf); first | refine brT ?_ | refine brF ?_)); conv => whnf)
      refine ⟨_, l3Sex_spec (ss[n - 1]'hm).a, ?_⟩
      ((repeat ((conv => whnf); first | refine brT ?_ | refine brF ?_)); conv => whnf)
      (refine ⟨fun g1 => ?_, fun g1 => ?_⟩ <;> rw [g1])
      · rw [notB_t] at g1
        ((repeat ((conv => whnf); first | refine brT ?_ | refine brF ?_)); conv => whnf)
        (refine ⟨fun g2 => ?_, fun g2 => ?_⟩ <;> rw [g2])
        · rw [notB_t] at g2
          ((repeat ((conv => whnf); first | refine brT ?_ | refine brF ?_)); conv => whnf)
          exact fin (by rw [g1, g2]; rfl)
        rw [notB_f] at g2
        rw [show (eqI r.sex 0 || eqI r.sex (sxOf (ss[n - 1]'hm).a)) = true by rw [g2, Bool.or_true], Bool.true_and]
        ((repeat ((conv => whnf); first | refine brT ?_ | refine brF ?_)); conv => whnf)
        intro _
        rw [List.length_map]
        ((repeat ((conv => whnf); first | refine brT ?_ | refine brF ?_)); conv => whnf)
        refine loop_rule (α := Nat) (fun k => [(71, .int .i64 (k : Int))]) (fun _ => [.box r.lv, .box (typLV e ss)]) (fun k => r.fr.length - k) (fun k => k ≤ r.fr.length ∧ ∀ j (hj : j < k) (h3 : n + j < ss.length) (h4 : j < r.fr.length), likeB ss[n + j] r.fr[j] = true) 0 ⟨Nat.zero_le _, fun _ h => absurd h (Nat.not_lt_zero _)⟩ ?_ ?_
        · refine ⟨?_, ⟨rfl, rfl, trivial⟩, rfl, rfl⟩
          ((repeat ((conv => whnf); refine ⟨rfl, ?_⟩)); trivial)
        rintro k ⟨hk, hz⟩
        ((repeat ((conv => whnf); first | refine brT ?_ | refine brF ?_)); conv => whnf)
        (refine ⟨fun h4 => ?_, fun h4 => ?_⟩ <;> rw [h4])
        · have hlt : k < r.fr.length := by rw [ltI_t] at h4; omega
          have hlt2 : n + k < ss.length := by omega
          ((repeat ((conv => whnf); first | refine brT ?_ | refine brF ?_)); conv => whnf)
          refine ⟨k, r.fr[k].lv, rfl, by simp [hlt], rfl, ?_⟩
          ((repeat ((conv => whnf); first | refine brT ?_ | refine brF ?_)); conv => whnf)
          rw [show IntKind.i64.wrap ((n : Int) + (k : Int)) = ((n + k : Nat) : Int) by rw [wrap64 (by omega) (by omega)]; omega]
          refine ⟨n + k, ss[n + k].lv, rfl, by simp [hlt2], rfl, ?_⟩
          ((repeat ((conv => whnf); first | refine brT ?_ | refine brF ?_)); conv => whnf)
          have no : likeB ss[n + k] r.fr[k] = false → false = (likeL r.fr (ss.drop n)) := fun h5 => by
            rw [likeL_no (k := k) (ss := ss.drop n) hlt (by simp; omega) (by simpa using h5)]
          have e := step_i hlt hf'
          have next : likeB ss[n + k] r.fr[k] = true → ∀ j (hj : j < k + 1) (h3 : n + j < ss.length) (h4 : j < r.fr.length), likeB ss[n + j] r.fr[j] = true := fun h5 j hj h6 h7 => by
            by_cases ej : j = k
            · subst ej; exact h5
            · exact hz j (by omega) h6 h7
          (refine ⟨fun h5 => ?_, fun h5 => ?_⟩ <;> rw [h5])
          · rw [notB_t, eqI_comm] at h5
            ((repeat ((conv => whnf); first | refine brT ?_ | refine brF ?_)); conv => whnf)
            exact fin (no (by unfold likeB; rw [h5]; rfl))
          rw [notB_f, eqI_comm] at h5
          ((repeat ((conv => whnf); first | refine brT ?_ | refine brF ?_)); conv => whnf)
          (refine ⟨fun h6 => ?_, fun h6 => ?_⟩ <;> rw [h6])
          · rw [notB_t] at h6
            ((repeat ((conv => whnf); first | refine brT ?_ | refine brF ?_)); conv => whnf)
            (refine ⟨fun h7 => ?_, fun h7 => ?_⟩ <;> rw [h7])
            · rw [notB_t, eqI_comm] at h7
              ((repeat ((conv => whnf); first | refine brT ?_ | refine brF ?_)); conv => whnf)
              exact fin (no (by unfold likeB; rw [h5, h6, h7]; rfl))
            rw [notB_f, eqI_comm] at h7
            ((repeat ((conv => whnf); first | refine brT ?_ | refine brF ?_)); conv => whnf)
            refine round_end (k + 1) ⟨hlt, next (by unfold likeB; rw [h5, h6, h7]; rfl)⟩ (by omega) ⟨?_, ⟨rfl, rfl, trivial⟩, rfl, rfl⟩
            ((repeat ((conv => whnf); first | refine ⟨e, ?_⟩ | refine ⟨rfl, ?_⟩)); trivial)
          rw [notB_f] at h6
          ((repeat ((conv => whnf); first | refine brT ?_ | refine brF ?_)); conv => whnf)
          refine round_end (k + 1) ⟨hlt, next (by unfold likeB; rw [h5, h6]; rfl)⟩ (by omega) ⟨?_, ⟨rfl, rfl, trivial⟩, rfl, rfl⟩
          ((repeat ((conv => whnf); first | refine ⟨e, ?_⟩ | refine ⟨rfl, ?_⟩)); trivial)
        have h5 : k = r.fr.length := by rw [ltI_f] at h4; omega
        subst h5
        ((repeat ((conv => whnf); first | refine brT ?_ | refine brF ?_)); conv => whnf)
        refine fin ?_
        symm
        exact likeL_yes (by simp; omega) fun j hj hs3 => by
          have := hz j hj (by simp at hs3; omega) hj
          simpa using this
      · rw [notB_f] at g1
        rw [show (eqI r.sex 0 || eqI r.sex (sxOf (ss[n - 1]'hm).a)) = true by rw [g1]; rfl, Bool.true_and]
        ((repeat ((conv => whnf); first | refine brT ?_ | refine brF ?_)); conv => whnf)
        intro _
        rw [List.length_map]
        ((repeat ((conv => whnf); first | refine brT ?_ | refine brF ?_)); conv => whnf)
        refine loop_rule (α := Nat) (fun k => [(71, .int .i64 (k : Int))]) (fun _ => [.box r.lv, .box (typLV e ss)]) (fun k => r.fr.length - k) (fun k => k ≤ r.fr.length ∧ ∀ j (hj : j < k) (h3 : n + j < ss.length) (h4 : j < r.fr.length), likeB ss[n + j] r.fr[j] = true) 0 ⟨Nat.zero_le _, fun _ h => absurd h (Nat.not_lt_zero _)⟩ ?_ ?_
        · refine ⟨?_, ⟨rfl, rfl, trivial⟩, rfl, rfl⟩
          ((repeat ((conv => whnf); refine ⟨rfl, ?_⟩)); trivial)
        rintro k ⟨hk, hz⟩
        ((repeat ((conv => whnf); first | refine brT ?_ | refine brF ?_)); conv => whnf)
        (refine ⟨fun h4 => ?_, fun h4 => ?_⟩ <;> rw [h4])
        · have hlt : k < r.fr.length := by rw [ltI_t] at h4; omega
          have hlt2 : n + k < ss.length := by omega
          ((repeat ((conv => whnf); first | refine brT ?_ | refine brF ?_)); conv => whnf)
          refine ⟨k, r.fr[k].lv, rfl, by simp [hlt], rfl, ?_⟩
          ((repeat ((conv => whnf); first | refine brT ?_ | refine brF ?_)); conv => whnf)
          rw [show IntKind.i64.wrap ((n : Int) + (k : Int)) = ((n + k : Nat) : Int) by rw [wrap64 (by omega) (by omega)]; omega]
          refine ⟨n + k, ss[n + k].lv, rfl, by simp [hlt2], rfl, ?_⟩
          ((repeat ((conv => whnf); first | refine brT ?_ | refine brF ?_)); conv => whnf)
          have no : likeB ss[n + k] r.fr[k] = false → false = (likeL r.fr (ss.drop n)) := fun h5 => by
            rw [likeL_no (k := k) (ss := ss.drop n) hlt (by simp; omega) (by simpa using h5)]
          have e := step_i hlt hf'
          have next : likeB ss[n + k] r.fr[k] = true → ∀ j (hj : j < k + 1) (h3 : n + j < ss.length) (h4 : j < r.fr.length), likeB ss[n + j] r.fr[j] = true := fun h5 j hj h6 h7 => by
            by_cases ej : j = k
            · subst ej; exact h5
            · exact hz j (by omega) h6 h7
          (refine ⟨fun h5 => ?_, fun h5 => ?_⟩ <;> rw [h5])
          · rw [notB_t, eqI_comm] at h5
            ((repeat ((conv => whnf); first | refine brT ?_ | refine brF ?_)); conv => whnf)
            exact fin (no (by unfold likeB; rw [h5]; rfl))
          rw [notB_f, eqI_comm] at h5
          ((repeat ((conv => whnf); first | refine brT ?_ | refine brF ?_)); conv => whnf)
          (refine ⟨fun h6 => ?_, fun h6 => ?_⟩ <;> rw [h6])
          · rw [notB_t] at h6
            ((repeat ((conv => whnf); first | refine brT ?_ | refine brF ?_)); conv => whnf)
            (refine ⟨fun h7 => ?_, fun h7 => ?_⟩ <;> rw [h7])
            · rw [notB_t, eqI_comm] at h7
              ((repeat ((conv => whnf); first | refine brT ?_ | refine brF ?_)); conv => whnf)
              exact fin (no (by unfold likeB; rw [h5, h6, h7]; rfl))
            rw [notB_f, eqI_comm] at h7
            ((repeat ((conv => whnf); first | refine brT ?_ | refine brF ?_)); conv => whnf)
            refine round_end (k + 1) ⟨hlt, next (by unfold likeB; rw [h5, h6, h7]; rfl)⟩ (by omega) ⟨?_, ⟨rfl, rfl, trivial⟩, rfl, rfl⟩
            ((repeat ((conv => whnf); first | refine ⟨e, ?_⟩ | refine ⟨rfl, ?_⟩)); trivial)
          rw [notB_f] at h6
          ((repeat ((conv => whnf); first | refine brT ?_ | refine brF ?_)); conv => whnf)
          refine round_end (k + 1) ⟨hlt, next (by unfold likeB; rw [h5, h6]; rfl)⟩ (by omega) ⟨?_, ⟨rfl, rfl, trivial⟩, rfl, rfl⟩
          ((repeat ((conv => whnf); first | refine ⟨e, ?_⟩ | refine ⟨rfl, ?_⟩)); trivial)
        have h5 : k = r.fr.length := by rw [ltI_f] at h4; omega
        subst h5
        ((repeat ((conv => whnf); first | refine brT ?_ | refine brF ?_)); conv => whnf)
        refine fin ?_
        symm
        exact likeL_yes (by simp; omega) fun j hj hs3 => by
          have := hz j hj (by simp at hs3; omega) hj
          simpa using this
    · have hn0 : n = 0 := by rw [ltI_f] at q1; omega
      have hsx : sexAt (egoT e ss) ss n = egoT e ss := by rw [hn0]; rfl
      rw [hsx]
      ((repeat ((conv => whnf); first | refine brT ?_ | refine brF ?_)); conv => whnf)
      (refine ⟨fun g1 => ?_, fun g1 => ?_⟩ <;> rw [g1])
      · rw [notB_t] at g1
        ((repeat ((conv => whnf); first | refine brT ?_ | refine brF ?_)); conv => whnf)
        (refine ⟨fun g2 => ?_, fun g2 => ?_⟩ <;> rw [g2])
        · rw [notB_t] at g2
          ((repeat ((conv => whnf); first | refine brT ?_ | refine brF ?_)); conv => whnf)
          exact fin (by rw [g1, g2]; rfl)
        rw [notB_f] at g2
        rw [show (eqI r.sex 0 || eqI r.sex (egoT e ss)) = true by rw [g2, Bool.or_true], Bool.true_and]
        ((repeat ((conv => whnf); first | refine brT ?_ | refine brF ?_)); conv => whnf)
        intro _
        rw [List.length_map]
        ((repeat ((conv => whnf); first | refine brT ?_ | refine brF ?_)); conv => whnf)
        refine loop_rule (α := Nat) (fun k => [(71, .int .i64 (k : Int))]) (fun _ => [.box r.lv, .box (typLV e ss)]) (fun k => r.fr.length - k) (fun k => k ≤ r.fr.length ∧ ∀ j (hj : j < k) (h3 : n + j < ss.length) (h4 : j < r.fr.length), likeB ss[n + j] r.fr[j] = true) 0 ⟨Nat.zero_le _, fun _ h => absurd h (Nat.not_lt_zero _)⟩ ?_ ?_
        · refine ⟨?_, ⟨rfl, rfl, trivial⟩, rfl, rfl⟩
          ((repeat ((conv => whnf); refine ⟨rfl, ?_⟩)); trivial)
        rintro k ⟨hk, hz⟩
        ((repeat ((conv => whnf); first | refine brT ?_ | refine brF ?_)); conv => whnf)
        (refine ⟨fun h4 => ?_, fun h4 => ?_⟩ <;> rw [h4])
        · have hlt : k < r.fr.length := by rw [ltI_t] at h4; omega
          have hlt2 : n + k < ss.length := by omega
          ((repeat ((conv => whnf); first | refine brT ?_ | refine brF ?_)); conv => whnf)
          refine ⟨k, r.fr[k].lv, rfl, by simp [hlt], rfl, ?_⟩
          ((repeat ((conv => whnf); first | refine brT ?_ | refine brF ?_)); conv => whnf)
          rw [show IntKind.i64.wrap ((n : Int) + (k : Int)) = ((n + k : Nat) : Int) by rw [wrap64 (by omega) (by omega)]; omega]
          refine ⟨n + k, ss[n + k].lv, rfl, by simp [hlt2], rfl, ?_⟩
          ((repeat ((conv => whnf); first | refine brT ?_ | refine brF ?_)); conv => whnf)
          have no : likeB ss[n + k] r.fr[k] = false → false = (likeL r.fr (ss.drop n)) := fun h5 => by
            rw [likeL_no (k := k) (ss := ss.drop n) hlt (by simp; omega) (by simpa using h5)]
          have e := step_i hlt hf'
          have next : likeB ss[n + k] r.fr[k] = true → ∀ j (hj : j < k + 1) (h3 : n + j < ss.length) (h4 : j < r.fr.length), likeB ss[n + j] r.fr[j] = true := fun h5 j hj h6 h7 => by
            by_cases ej : j = k
            · subst ej; exact h5
            · exact hz j (by omega) h6 h7
          (refine ⟨fun h5 => ?_, fun h5 => ?_⟩ <;> rw [h5])
          · rw [notB_t, eqI_comm] at h5
            ((repeat ((conv => whnf); first | refine brT ?_ | refine brF ?_)); conv => whnf)
            exact fin (no (by unfold likeB; rw [h5]; rfl))
          rw [notB_f, eqI_comm] at h5
          ((repeat ((conv => whnf); first | refine brT ?_ | refine brF ?_)); conv => whnf)
          (refine ⟨fun h6 => ?_, fun h6 => ?_⟩ <;> rw [h6])
          · rw [notB_t] at h6
            ((repeat ((conv => whnf); first | refine brT ?_ | refine brF ?_)); conv => whnf)
            (refine ⟨fun h7 => ?_, fun h7 => ?_⟩ <;> rw [h7])
            · rw [notB_t, eqI_comm] at h7
              ((repeat ((conv => whnf); first | refine brT ?_ | refine brF ?_)); conv => whnf)
              exact fin (no (by unfold likeB; rw [h5, h6, h7]; rfl))
            rw [notB_f, eqI_comm] at h7
            ((repeat ((conv => whnf); first | refine brT ?_ | refine brF ?_)); conv => whnf)
            refine round_end (k + 1) ⟨hlt, next (by unfold likeB; rw [h5, h6, h7]; rfl)⟩ (by omega) ⟨?_, ⟨rfl, rfl, trivial⟩, rfl, rfl⟩
            ((repeat ((conv => whnf); first | refine ⟨e, ?_⟩ | refine ⟨rfl, ?_⟩)); trivial)
          rw [notB_f] at h6
          ((repeat ((conv => whnf); first | refine brT ?_ | refine brF ?_)); conv => whnf)
          refine round_end (k + 1) ⟨hlt, next (by unfold likeB; rw [h5, h6]; rfl)⟩ (by omega) ⟨?_, ⟨rfl, rfl, trivial⟩, rfl, rfl⟩
          ((repeat ((conv => whnf); first | refine ⟨e, ?_⟩ | refine ⟨rfl, ?_⟩)); trivial)
        have h5 : k = r.fr.length := by rw [ltI_f] at h4; omega
        subst h5
        ((repeat ((conv => whnf); first | refine brT ?_ | refine brF ?_)); conv => whnf)
        refine fin ?_
        symm
        exact likeL_yes (by simp; omega) fun j hj hs3 => by
          have := hz j hj (by simp at hs3; omega) hj
          simpa using this
      · rw [notB_f] at g1
        rw [show (eqI r.sex 0 || eqI r.sex (egoT e ss)) = true by rw [g1]; rfl, Bool.true_and]
        ((repeat ((conv => whnf); first | refine brT ?_ | refine brF ?_)); conv => whnf)
        intro _
        rw [List.length_map]
        ((repeat ((conv => whnf); first | refine brT ?_ | refine brF ?_)); conv => whnf)
        refine loop_rule (α := Nat) (fun k => [(71, .int .i64 (k : Int))]) (fun _ => [.box r.lv, .box (typLV e ss)]) (fun k => r.fr.length - k) (fun k => k ≤ r.fr.length ∧ ∀ j (hj : j < k) (h3 : n + j < ss.length) (h4 : j < r.fr.length), likeB ss[n + j] r.fr[j] = true) 0 ⟨Nat.zero_le _, fun _ h => absurd h (Nat.not_lt_zero _)⟩ ?_ ?_
        · refine ⟨?_, ⟨rfl, rfl, trivial⟩, rfl, rfl⟩
          ((repeat ((conv => whnf); refine ⟨rfl, ?_⟩)); trivial)
        rintro k ⟨hk, hz⟩
        ((repeat ((conv => whnf); first | refine brT ?_ | refine brF ?_)); conv => whnf)
        (refine ⟨fun h4 => ?_, fun h4 => ?_⟩ <;> rw [h4])
        · have hlt : k < r.fr.length := by rw [ltI_t] at h4; omega
          have hlt2 : n + k < ss.length := by omega
          ((repeat ((conv => whnf); first | refine brT ?_ | refine brF ?_)); conv => whnf)
          refine ⟨k, r.fr[k].lv, rfl, by simp [hlt], rfl, ?_⟩
          ((repeat ((conv => whnf); first | refine brT ?_ | refine brF ?_)); conv => whnf)
          rw [show IntKind.i64.wrap ((n : Int) + (k : Int)) = ((n + k : Nat) : Int) by rw [wrap64 (by omega) (by omega)]; omega]
          refine ⟨n + k, ss[n + k].lv, rfl, by simp [hlt2], rfl, ?_⟩
          ((repeat ((conv => whnf); first | refine brT ?_ | refine brF ?_)); conv => whnf)
          have no : likeB ss[n + k] r.fr[k] = false → false = (likeL r.fr (ss.drop n)) := fun h5 => by
            rw [likeL_no (k := k) (ss := ss.drop n) hlt (by simp; omega) (by simpa using h5)]
          have e := step_i hlt hf'
          have next : likeB ss[n + k] r.fr[k] = true → ∀ j (hj : j < k + 1) (h3 : n + j < ss.length) (h4 : j < r.fr.length), likeB ss[n + j] r.fr[j] = true := fun h5 j hj h6 h7 => by
            by_cases ej : j = k
            · subst ej; exact h5
            · exact hz j (by omega) h6 h7
          (refine ⟨fun h5 => ?_, fun h5 => ?_⟩ <;> rw [h5])
          · rw [notB_t, eqI_comm] at h5
            ((repeat ((conv => whnf); first | refine brT ?_ | refine brF ?_)); conv => whnf)
            exact fin (no (by unfold likeB; rw [h5]; rfl))
          rw [notB_f, eqI_comm] at h5
          ((repeat ((conv => whnf); first | refine brT ?_ | refine brF ?_)); conv => whnf)
          (refine ⟨fun h6 => ?_, fun h6 => ?_⟩ <;> rw [h6])
          · rw [notB_t] at h6
            ((repeat ((conv => whnf); first | refine brT ?_ | refine brF ?_)); conv => whnf)
            (refine ⟨fun h7 => ?_, fun h7 => ?_⟩ <;> rw [h7])
            · rw [notB_t, eqI_comm] at h7
              ((repeat ((conv => whnf); first | refine brT ?_ | refine brF ?_)); conv => whnf)
              exact fin (no (by unfold likeB; rw [h5, h6, h7]; rfl))
            rw [notB_f, eqI_comm] at h7
            ((repeat ((conv => whnf); first | refine brT ?_ | refine brF ?_)); conv => whnf)
            refine round_end (k + 1) ⟨hlt, next (by unfold likeB; rw [h5, h6, h7]; rfl)⟩ (by omega) ⟨?_, ⟨rfl, rfl, trivial⟩, rfl, rfl⟩
            ((repeat ((conv => whnf); first | refine ⟨e, ?_⟩ | refine ⟨rfl, ?_⟩)); trivial)
          rw [notB_f] at h6
          ((repeat ((conv => whnf); first | refine brT ?_ | refine brF ?_)); conv => whnf)
          refine round_end (k + 1) ⟨hlt, next (by unfold likeB; rw [h5, h6]; rfl)⟩ (by omega) ⟨?_, ⟨rfl, rfl, trivial⟩, rfl, rfl⟩
          ((repeat ((conv => whnf); first | refine ⟨e, ?_⟩ | refine ⟨rfl, ?_⟩)); trivial)
        have h5 : k = r.fr.length := by rw [ltI_f] at h4; omega
        subst h5
        ((repeat ((conv => whnf); first | refine brT ?_ | refine brF ?_)); conv => whnf)
        refine fin ?_
        symm
        exact likeL_yes (by simp; omega) fun j hj hs3 => by
          have := hz j hj (by simp at hs3; omega) hj
          simpa using this
  ((repeat ((conv => whnf); first | refine brT ?_ | refine brF ?_)); conv => whnf)
  (refine ⟨fun p2 => ?_, fun p2 => ?_⟩ <;> rw [p2])
  · ((repeat ((conv => whnf); first | refine brT ?_ | refine brF ?_)); conv => whnf)
    intro _
    rw [List.length_map]
    ((repeat ((conv => whnf); first | refine brT ?_ | refine brF ?_)); conv => whnf)
    rw [hend]
    (refine ⟨fun p3 => ?_, fun p3 => ?_⟩ <;> rw [p3])
    · rw [notB_t] at p3
      ((repeat ((conv => whnf); first | refine brT ?_ | refine brF ?_)); conv => whnf)
      exact fin (by rw [show plB r.place n (n + r.fr.length) ss.length = false by unfold plB; rw [p1, p2]; exact p3]; simp)
    rw [notB_f] at p3
    rw [show plB r.place n (n + r.fr.length) ss.length = true by unfold plB; rw [p1, p2]; exact p3, Bool.and_true]
    ((repeat ((conv => whnf); first | refine brT ?_ | refine brF ?_)); conv => whnf)
    refine ⟨_, l3Ego_spec e ss, ?_⟩
    ((repeat ((conv => whnf); first | refine brT ?_ | refine brF ?_)); conv => whnf)
    (refine ⟨fun q1 => ?_, fun q1 => ?_⟩ <;> rw [q1])
    · have hn0 : 0 < n := by rw [ltI_t] at q1; omega
      have hm : n - 1 < ss.length := by omega
      have hsx : sexAt (egoT e ss) ss n = sxOf (ss[n - 1]'hm).a := by
        obtain ⟨m, rfl⟩ : ∃ m, n = m + 1 := ⟨n - 1, by omega⟩
        have hm2 : m < ss.length := by omega
        simp [sexAt, hm2]
      rw [hsx]
      ((repeat ((conv => whnf); first | refine brT ?_ | refine brF ?_)); conv => whnf)
      rw [show IntKind.i64.wrap ((n : Int) - 1) = ((n - 1 : Nat) : Int) by rw [wrap64 (by omega) (by omega)]; omega]
      refine ⟨n - 1, (ss[n - 1]'hm).lv, rfl, by simp [hm], rfl, ?_⟩
      ((repeat ((conv => whnf); first | refine brT ?_ | refine brF ?_)); conv => whnf)
      refine ⟨_, l3Sex_spec (ss[n - 1]'hm).a, ?_⟩
      ((repeat ((conv => whnf); first | refine brT ?_ | refine brF ?_)); conv => whnf)
      (refine ⟨fun g1 => ?_, fun g1 => ?_⟩ <;> rw [g1])
      · rw [notB_t] at g1
        ((repeat ((conv => whnf); first | refine brT ?_ | refine brF ?_)); conv => whnf)
        (refine ⟨fun g2 => ?_, fun g2 => ?_⟩ <;> rw [g2])
        · rw [notB_t] at g2
          ((repeat ((conv => whnf); first | refine brT ?_ | refine brF ?_)); conv => whnf)
          exact fin (by rw [g1, g2]; rfl)
        rw [notB_f] at g2
        rw [show (eqI r.sex 0 || eqI r.sex (sxOf (ss[n - 1]'hm).a)) = true by rw [g2, Bool.or_true], Bool.true_and]
        ((repeat ((conv => whnf); first | refine brT ?_ | refine brF ?_)); conv => whnf)
        intro _
        rw [List.length_map]
        ((repeat ((conv => whnf); first | refine brT ?_ | refine brF ?_)); conv => whnf)
        refine loop_rule (α := Nat) (fun k => [(71, .int .i64 (k : Int))]) (fun _ => [.box r.lv, .box (typLV e ss)]) (fun k => r.fr.length - k) (fun k => k ≤ r.fr.length ∧ ∀ j (hj : j < k) (h3 : n + j < ss.length) (h4 : j < r.fr.length), likeB ss[n + j] r.fr[j] = true) 0 ⟨Nat.zero_le _, fun _ h => absurd h (Nat.not_lt_zero _)⟩ ?_ ?_
        · refine ⟨?_, ⟨rfl, rfl, trivial⟩, rfl, rfl⟩
          ((repeat ((conv => whnf); refine ⟨rfl, ?_⟩)); trivial)
        rintro k ⟨hk, hz⟩
        ((repeat ((conv => whnf); first | refine brT ?_ | refine brF ?_)); conv => whnf)
        (refine ⟨fun h4 => ?_, fun h4 => ?_⟩ <;> rw [h4])
        · have hlt : k < r.fr.length := by rw [ltI_t] at h4; omega
          have hlt2 : n + k < ss.length := by omega
          ((repeat ((conv => whnf); first | refine brT ?_ | refine brF ?_)); conv => whnf)
          refine ⟨k, r.fr[k].lv, rfl, by simp [hlt], rfl, ?_⟩
          ((repeat ((conv => whnf); first | refine brT ?_ | refine brF ?_)); conv => whnf)
          rw [show IntKind.i64.wrap ((n : Int) + (k : Int)) = ((n + k : Nat) : Int) by rw [wrap64 (by omega) (by omega)]; omega]
          refine ⟨n + k, ss[n + k].lv, rfl, by simp [hlt2], rfl, ?_⟩
          ((repeat ((conv => whnf); first | refine brT ?_ | refine brF ?_)); conv => whnf)
          have no : likeB ss[n + k] r.fr[k] = false → false = (likeL r.fr (ss.drop n)) := fun h5 => by
            rw [likeL_no (k := k) (ss := ss.drop n) hlt (by simp; omega) (by simpa using h5)]
          have e := step_i hlt hf'
          have next : likeB ss[n + k] r.fr[k] = true → ∀ j (hj : j < k + 1) (h3 : n + j < ss.length) (h4 : j < r.fr.length), likeB ss[n + j] r.fr[j] = true := fun h5 j hj h6 h7 => by
            by_cases ej : j = k
            · subst ej; exact h5
            · exact hz j (by omega) h6 h7
          (refine ⟨fun h5 => ?_, fun h5 => ?_⟩ <;> rw [h5])
          · rw [notB_t, eqI_comm] at h5
            ((repeat ((conv => whnf); first | refine brT ?_ | refine brF ?_)); conv => whnf)
            exact fin (no (by unfold likeB; rw [h5]; rfl))
          rw [notB_f, eqI_comm] at h5
          ((repeat ((conv => whnf); first | refine brT ?_ | refine brF ?_)); conv => whnf)
          (refine ⟨fun h6 => ?_, fun h6 => ?_⟩ <;> rw [h6])
          · rw [notB_t] at h6
            ((repeat ((conv => whnf); first | refine brT ?_ | refine brF ?_)); conv => whnf)
            (refine ⟨fun h7 => ?_, fun h7 => ?_⟩ <;> rw [h7])
            · rw [notB_t, eqI_comm] at h7
              ((repeat ((conv => whnf); first | refine brT ?_ | refine brF ?_)); conv => whnf)
              exact fin (no (by unfold likeB; rw [h5, h6, h7]; rfl))
            rw [notB_f, eqI_comm] at h7
            ((repeat ((conv => whnf); first | refine brT ?_ | refine brF ?_)); conv => whnf)
            refine round_end (k + 1) ⟨hlt, next (by unfold likeB; rw [h5, h6, h7]; rfl)⟩ (by omega) ⟨?_, ⟨rfl, rfl, trivial⟩, rfl, rfl⟩
            ((repeat ((conv => whnf); first | refine ⟨e, ?_⟩ | refine ⟨rfl, ?_⟩)); trivial)
          rw [notB_f] at h6
          ((repeat ((conv => whnf); first | refine brT ?_ | refine brF ?_)); conv => whnf)
          refine round_end (k + 1) ⟨hlt, next (by unfold likeB; rw [h5, h6]; rfl)⟩ (by omega) ⟨?_, ⟨rfl, rfl, trivial⟩, rfl, rfl⟩
          ((repeat ((conv => whnf); first | refine ⟨e, ?_⟩ | refine ⟨rfl, ?_⟩)); trivial)
        have h5 : k = r.fr.length := by rw [ltI_f] at h4; omega
        subst h5
        ((repeat ((conv => whnf); first | refine brT ?_ | refine brF ?_)); conv => whnf)
        refine fin ?_
        symm
        exact likeL_yes (by simp; omega) fun j hj hs3 => by
          have := hz j hj (by simp at hs3; omega) hj
          simpa using this
      · rw [notB_f] at g1
        rw [show (eqI r.sex 0 || eqI r.sex (sxOf (ss[n - 1]'hm).a)) = true by rw [g1]; rfl, Bool.true_and]
        ((repeat ((conv => whnf); first | refine brT ?_ | refine brF ?_)); conv => whnf)
        intro _
        rw [List.length_map]
        ((repeat ((conv => whnf); first | refine brT ?_ | refine brF ?_)); conv => whnf)
        refine loop_rule (α := Nat) (fun k => [(71, .int .i64 (k : Int))]) (fun _ => [.box r.lv, .box (typLV e ss)]) (fun k => r.fr.length - k) (fun k => k ≤ r.fr.length ∧ ∀ j (hj : j < k) (h3 : n + j < ss.length) (h4 : j < r.fr.length), likeB ss[n + j] r.fr[j] = true) 0 ⟨Nat.zero_le _, fun _ h => absurd h (Nat.not_lt_zero _)⟩ ?_ ?_
        · refine ⟨?_, ⟨rfl, rfl, trivial⟩, rfl, rfl⟩
          ((repeat ((conv => whnf); refine ⟨rfl, ?_⟩)); trivial)
        rintro k ⟨hk, hz⟩
        ((repeat ((conv => whnf); first | refine brT ?_ | refine brF ?_)); conv => whnf)
        (refine ⟨fun h4 => ?_, fun h4 => ?_⟩ <;> rw [h4])
        · have hlt : k < r.fr.length := by rw [ltI_t] at h4; omega
          have hlt2 : n + k < ss.length := by omega
          ((repeat ((conv => whnf); first | refine brT ?_ | refine brF ?_)); conv => whnf)
          refine ⟨k, r.fr[k].lv, rfl, by simp [hlt], rfl, ?_⟩
          ((repeat ((conv => whnf); first | refine brT ?_ | refine brF ?_)); conv => whnf)
          rw [show IntKind.i64.wrap ((n : Int) + (k : Int)) = ((n + k : Nat) : Int) by rw [wrap64 (by omega) (by omega)]; omega]
          refine ⟨n + k, ss[n + k].lv, rfl, by simp [hlt2], rfl, ?_⟩
          ((repeat ((conv => whnf); first | refine brT ?_ | refine brF ?_)); conv => whnf)
          have no : likeB ss[n + k] r.fr[k] = false → false = (likeL r.fr (ss.drop n)) := fun h5 => by
            rw [likeL_no (k := k) (ss := ss.drop n) hlt (by simp; omega) (by simpa using h5)]
          have e := step_i hlt hf'
          have next : likeB ss[n + k] r.fr[k] = true → ∀ j (hj : j < k + 1) (h3 : n + j < ss.length) (h4 : j < r.fr.length), likeB ss[n + j] r.fr[j] = true := fun h5 j hj h6 h7 => by
            by_cases ej : j = k
            · subst ej; exact h5
            · exact hz j (by omega) h6 h7
          (refine ⟨fun h5 => ?_, fun h5 => ?_⟩ <;> rw [h5])
          · rw [notB_t, eqI_comm] at h5
            ((repeat ((conv => whnf); first | refine brT ?_ | refine brF ?_)); conv => whnf)
            exact fin (no (by unfold likeB; rw [h5]; rfl))
          rw [notB_f, eqI_comm] at h5
          ((repeat ((conv => whnf); first | refine brT ?_ | refine brF ?_)); conv => whnf)
          (refine ⟨fun h6 => ?_, fun h6 => ?_⟩ <;> rw [h6])
          · rw [notB_t] at h6
            ((repeat ((conv => whnf); first | refine brT ?_ | refine brF ?_)); conv => whnf)
            (refine ⟨fun h7 => ?_, fun h7 => ?_⟩ <;> rw [h7])
            · rw [notB_t, eqI_comm] at h7
              ((repeat ((conv => whnf); first | refine brT ?_ | refine brF ?_)); conv => whnf)
              exact fin (no (by unfold likeB; rw [h5, h6, h7]; rfl))
            rw [notB_f, eqI_comm] at h7
            ((repeat ((conv => whnf); first | refine brT ?_ | refine brF ?_)); conv => whnf)
            refine round_end (k + 1) ⟨hlt, next (by unfold likeB; rw [h5, h6, h7]; rfl)⟩ (by omega) ⟨?_, ⟨rfl, rfl, trivial⟩, rfl, rfl⟩
            ((repeat ((conv => whnf); first | refine ⟨e, ?_⟩ | refine ⟨rfl, ?_⟩)); trivial)
          rw [notB_f] at h6
          ((repeat ((conv => whnf); first | refine brT ?_ | refine brF ?_)); conv => whnf)
          refine round_end (k + 1) ⟨hlt, next (by unfold likeB; rw [h5, h6]; rfl)⟩ (by omega) ⟨?_, ⟨rfl, rfl, trivial⟩, rfl, rfl⟩
          ((repeat ((conv => whnf); first | refine ⟨e, ?_⟩ | refine ⟨rfl, ?_⟩)); trivial)
        have h5 : k = r.fr.length := by rw [ltI_f] at h4; omega
        subst h5
        ((repeat ((conv => whnf); first | refine brT ?_ | refine brF ?_)); conv => whnf)
        refine fin ?_
        symm
        exact likeL_yes (by simp; omega) fun j hj hs3 => by
          have := hz j hj (by simp at hs3; omega) hj
          simpa using this
    · have hn0 : n = 0 := by rw [ltI_f] at q1; omega
      have hsx : sexAt (egoT e ss) ss n = egoT e ss := by rw [hn0]; rfl
      rw [hsx]
      ((repeat ((conv => whnf); first | refine brT ?_ | refine brF ?_)); conv => whnf)
      (refine ⟨fun g1 => ?_, fun g1 => ?_⟩ <;> rw [g1])
      · rw [notB_t] at g1
        ((repeat ((conv => whnf); first | refine brT ?_ | refine brF ?_)); conv => whnf)
        (refine ⟨fun g2 => ?_, fun g2 => ?_⟩ <;> rw [g2])
        · rw [notB_t] at g2
          ((repeat ((conv => whnf); first | refine brT ?_ | refine brF ?_)); conv => whnf)
          exact fin (by rw [g1, g2]; rfl)
        rw [notB_f] at g2
        rw [show (eqI r.sex 0 || eqI r.sex (egoT e ss)) = true by rw [g2, Bool.or_true], Bool.true_and]
        ((repeat ((conv => whnf); first | refine brT ?_ | refine brF ?_)); conv => whnf)
        intro _
        rw [List.length_map]
        ((repeat ((conv => whnf); first | refine brT ?_ | refine brF ?_)); conv => whnf)
        refine loop_rule (α := Nat) (fun k => [(71, .int .i64 (k : Int))]) (fun _ => [.box r.lv, .box (typLV e ss)]) (fun k => r.fr.length - k) (fun k => k ≤ r.fr.length ∧ ∀ j (hj : j < k) (h3 : n + j < ss.length) (h4 : j < r.fr.length), likeB ss[n + j] r.fr[j] = true) 0 ⟨Nat.zero_le _, fun _ h => absurd h (Nat.not_lt_zero _)⟩ ?_ ?_
        · refine ⟨?_, ⟨rfl, rfl, trivial⟩, rfl, rfl⟩
          ((repeat ((conv => whnf); refine ⟨rfl, ?_⟩)); trivial)
        rintro k ⟨hk, hz⟩
        ((repeat ((conv => whnf); first | refine brT ?_ | refine brF ?_)); conv => whnf)
        (refine ⟨fun h4 => ?_, fun h4 => ?_⟩ <;> rw [h4])
        · have hlt : k < r.fr.length := by rw [ltI_t] at h4; omega
          have hlt2 : n + k < ss.length := by omega
          ((repeat ((conv => whnf); first | refine brT ?_ | refine brF ?_)); conv => whnf)
          refine ⟨k, r.fr[k].lv, rfl, by simp [hlt], rfl, ?_⟩
          ((repeat ((conv => whnf); first | refine brT ?_ | refine brF ?_)); conv => whnf)
          rw [show IntKind.i64.wrap ((n : Int) + (k : Int)) = ((n + k : Nat) : Int) by rw [wrap64 (by omega) (by omega)]; omega]
          refine ⟨n + k, ss[n + k].lv, rfl, by simp [hlt2], rfl, ?_⟩
          ((repeat ((conv => whnf); first | refine brT ?_ | refine brF ?_)); conv => whnf)
          have no : likeB ss[n + k] r.fr[k] = false → false = (likeL r.fr (ss.drop n)) := fun h5 => by
            rw [likeL_no (k := k) (ss := ss.drop n) hlt (by simp; omega) (by simpa using h5)]
          have e := step_i hlt hf'
          have next : likeB ss[n + k] r.fr[k] = true → ∀ j (hj : j < k + 1) (h3 : n + j < ss.length) (h4 : j < r.fr.length), likeB ss[n + j] r.fr[j] = true := fun h5 j hj h6 h7 => by
            by_cases ej : j = k
            · subst ej; exact h5
            · exact hz j (by omega) h6 h7
          (refine ⟨fun h5 => ?_, fun h5 => ?_⟩ <;> rw [h5])
          · rw [notB_t, eqI_comm] at h5
            ((repeat ((conv => whnf); first | refine brT ?_ | refine brF ?_)); conv => whnf)
            exact fin (no (by unfold likeB; rw [h5]; rfl))
          rw [notB_f, eqI_comm] at h5
          ((repeat ((conv => whnf); first | refine brT ?_ | refine brF ?_)); conv => whnf)
          (refine ⟨fun h6 => ?_, fun h6 => ?_⟩ <;> rw [h6])
          · rw [notB_t] at h6
            ((repeat ((conv => whnf); first | refine brT ?_ | refine brF ?_)); conv => whnf)
            (refine ⟨fun h7 => ?_, fun h7 => ?_⟩ <;> rw [h7])
            · rw [notB_t, eqI_comm] at h7
              ((repeat ((conv => whnf); first | refine brT ?_ | refine brF ?_)); conv => whnf)
              exact fin (no (by unfold likeB; rw [h5, h6, h7]; rfl))
            rw [notB_f, eqI_comm] at h7
            ((repeat ((conv => whnf); first | refine brT ?_ | refine brF ?_)); conv => whnf)
            refine round_end (k + 1) ⟨hlt, next (by unfold likeB; rw [h5, h6, h7]; rfl)⟩ (by omega) ⟨?_, ⟨rfl, rfl, trivial⟩, rfl, rfl⟩
            ((repeat ((conv => whnf); first | refine ⟨e, ?_⟩ | refine ⟨rfl, ?_⟩)); trivial)
          rw [notB_f] at h6
          ((repeat ((conv => whnf); first | refine brT ?_ | refine brF ?_)); conv => whnf)
          refine round_end (k + 1) ⟨hlt, next (by unfold likeB; rw [h5, h6]; rfl)⟩ (by omega) ⟨?_, ⟨rfl, rfl, trivial⟩, rfl, rfl⟩
          ((repeat ((conv => whnf); first | refine ⟨e, ?_⟩ | refine ⟨rfl, ?_⟩)); trivial)
        have h5 : k = r.fr.length := by rw [ltI_f] at h4; omega
        subst h5
        ((repeat ((conv => whnf); first | refine brT ?_ | refine brF ?_)); conv => whnf)
        refine fin ?_
        symm
        exact likeL_yes (by simp; omega) fun j hj hs3 => by
          have := hz j hj (by simp at hs3; omega) hj
          simpa using this
      · rw [notB_f] at g1
        rw [show (eqI r.sex 0 || eqI r.sex (egoT e ss)) = true by rw [g1]; rfl, Bool.true_and]
        ((repeat ((conv => whnf); first | refine brT ?_ | refine brF ?_)); conv => whnf)
        intro _
        rw [List.length_map]
        ((repeat ((conv => whnf); first | refine brT ?_ | refine brF ?_)); conv => whnf)
        refine loop_rule (α := Nat) (fun k => [(71, .int .i64 (k : Int))]) (fun _ => [.box r.lv, .box (typLV e ss)]) (fun k => r.fr.length - k) (fun k => k ≤ r.fr.length ∧ ∀ j (hj : j < k) (h3 : n + j < ss.length) (h4 : j < r.fr.length), likeB ss[n + j] r.fr[j] = true) 0 ⟨Nat.zero_le _, fun _ h => absurd h (Nat.not_lt_zero _)⟩ ?_ ?_
        · refine ⟨?_, ⟨rfl, rfl, trivial⟩, rfl, rfl⟩
          ((repeat ((conv => whnf); refine ⟨rfl, ?_⟩)); trivial)
        rintro k ⟨hk, hz⟩
        ((repeat ((conv => whnf); first | refine brT ?_ | refine brF ?_)); conv => whnf)
        (refine ⟨fun h4 => ?_, fun h4 => ?_⟩ <;> rw [h4])
        · have hlt : k < r.fr.length := by rw [ltI_t] at h4; omega
          have hlt2 : n + k < ss.length := by omega
          ((repeat ((conv => whnf); first | refine brT ?_ | refine brF ?_)); conv => whnf)
          refine ⟨k, r.fr[k].lv, rfl, by simp [hlt], rfl, ?_⟩
          ((repeat ((conv => whnf); first | refine brT ?_ | refine brF ?_)); conv => whnf)
          rw [show IntKind.i64.wrap ((n : Int) + (k : Int)) = ((n + k : Nat) : Int) by rw [wrap64 (by omega) (by omega)]; omega]
          refine ⟨n + k, ss[n + k].lv, rfl, by simp [hlt2], rfl, ?_⟩
          ((repeat ((conv => whnf); first | refine brT ?_ | refine brF ?_)); conv => whnf)
          have no : likeB ss[n + k] r.fr[k] = false → false = (likeL r.fr (ss.drop n)) := fun h5 => by
            rw [likeL_no (k := k) (ss := ss.drop n) hlt (by simp; omega) (by simpa using h5)]
          have e := step_i hlt hf'
          have next : likeB ss[n + k] r.fr[k] = true → ∀ j (hj : j < k + 1) (h3 : n + j < ss.length) (h4 : j < r.fr.length), likeB ss[n + j] r.fr[j] = true := fun h5 j hj h6 h7 => by
            by_cases ej : j = k
            · subst ej; exact h5
            · exact hz j (by omega) h6 h7
          (refine ⟨fun h5 => ?_, fun h5 => ?_⟩ <;> rw [h5])
          · rw [notB_t, eqI_comm] at h5
            ((repeat ((conv => whnf); first | refine brT ?_ | refine brF ?_)); conv => whnf)
            exact fin (no (by unfold likeB; rw [h5]; rfl))
          rw [notB_f, eqI_comm] at h5
          ((repeat ((conv => whnf); first | refine brT ?_ | refine brF ?_)); conv => whnf)
          (refine ⟨fun h6 => ?_, fun h6 => ?_⟩ <;> rw [h6])
          · rw [notB_t] at h6
            ((repeat ((conv => whnf); first | refine brT ?_ | refine brF ?_)); conv => whnf)
            (refine ⟨fun h7 => ?_, fun h7 => ?_⟩ <;> rw [h7])
            · rw [notB_t, eqI_comm] at h7
              ((repeat ((conv => whnf); first | refine brT ?_ | refine brF ?_)); conv => whnf)
              exact fin (no (by unfold likeB; rw [h5, h6, h7]; rfl))
            rw [notB_f, eqI_comm] at h7
            ((repeat ((conv => whnf); first | refine brT ?_ | refine brF ?_)); conv => whnf)
            refine round_end (k + 1) ⟨hlt, next (by unfold likeB; rw [h5, h6, h7]; rfl)⟩ (by omega) ⟨?_, ⟨rfl, rfl, trivial⟩, rfl, rfl⟩
            ((repeat ((conv => whnf); first | refine ⟨e, ?_⟩ | refine ⟨rfl, ?_⟩)); trivial)
          rw [notB_f] at h6
          ((repeat ((conv => whnf); first | refine brT ?_ | refine brF ?_)); conv => whnf)
          refine round_end (k + 1) ⟨hlt, next (by unfold likeB; rw [h5, h6]; rfl)⟩ (by omega) ⟨?_, ⟨rfl, rfl, trivial⟩, rfl, rfl⟩
          ((repeat ((conv => whnf); first | refine ⟨e, ?_⟩ | refine ⟨rfl, ?_⟩)); trivial)
        have h5 : k = r.fr.length := by rw [ltI_f] at h4; omega
        subst h5
        ((repeat ((conv => whnf); first | refine brT ?_ | refine brF ?_)); conv => whnf)
        refine fin ?_
        symm
        exact likeL_yes (by simp; omega) fun j hj hs3 => by
          have := hz j hj (by simp at hs3; omega) hj
          simpa using this
  rw [show plB r.place n (n + r.fr.length) ss.length = true by unfold plB; rw [p1, p2], Bool.and_true]
  ((repeat ((conv => whnf); first | refine brT ?_ | refine brF ?_)); conv => whnf)
  refine ⟨_, l3Ego_spec e ss, ?_⟩
  ((repeat ((conv => whnf); first | refine brT ?_ | refine brF ?_)); conv => whnf)
  (refine ⟨fun q1 => ?_, fun q1 => ?_⟩ <;> rw [q1])
  · have hn0 : 0 < n := by rw [ltI_t] at q1; omega
    have hm : n - 1 < ss.length := by omega
    have hsx : sexAt (egoT e ss) ss n = sxOf (ss[n - 1]'hm).a := by
      obtain ⟨m, rfl⟩ : ∃ m, n = m + 1 := ⟨n - 1, by omega⟩
      have hm2 : m < ss.length := by omega
      simp [sexAt, hm2]
    rw [hsx]
    ((repeat ((conv => whnf); first | refine brT ?_ | refine brF ?_)); conv => whnf)
    rw [show IntKind.i64.wrap ((n : Int) - 1) = ((n - 1 : Nat) : Int) by rw [wrap64 (by omega) (by omega)]; omega]
    refine ⟨n - 1, (ss[n - 1]'hm).lv, rfl, by simp [hm], rfl, ?_⟩
    ((repeat ((conv => whnf); first | refine brT ?_ | refine brF ?_)); conv => whnf)
    refine ⟨_, l3Sex_spec (ss[n - 1]'hm).a, ?_⟩
    ((repeat ((conv => whnf); first | refine brT ?_ | refine brF ?_)); conv => whnf)
    (refine ⟨fun g1 => ?_, fun g1 => ?_⟩ <;> rw [g1])
    · rw [notB_t] at g1
      ((repeat ((conv => whnf); first | refine brT ?_ | refine brF ?_)); conv => whnf)
      (refine ⟨fun g2 => ?_, fun g2 => ?_⟩ <;> rw [g2])
      · rw [notB_t] at g2
        ((repeat ((conv => whnf); first | refine brT ?_ | refine brF ?_)); conv => whnf)
        exact fin (by rw [g1, g2]; rfl)
      rw [notB_f] at g2
      rw [show (eqI r.sex 0 || eqI r.sex (sxOf (ss[n - 1]'hm).a)) = true by rw [g2, Bool.or_true], Bool.true_and]
      ((repeat ((conv => whnf); first | refine brT ?_ | refine brF ?_)); conv => whnf)
      intro _
      rw [List.length_map]
      ((repeat ((conv => whnf); first | refine brT ?_ | refine brF ?_)); conv => whnf)
      refine loop_rule (α := Nat) (fun k => [(71, .int .i64 (k : Int))]) (fun _ => [.box r.lv, .box (typLV e ss)]) (fun k => r.fr.length - k) (fun k => k ≤ r.fr.length ∧ ∀ j (hj : j < k) (h3 : n + j < ss.length) (h4 : j < r.fr.length), likeB ss[n + j] r.fr[j] = true) 0 ⟨Nat.zero_le _, fun _ h => absurd h (Nat.not_lt_zero _)⟩ ?_ ?_
      · refine ⟨?_, ⟨rfl, rfl, trivial⟩, rfl, rfl⟩
        ((repeat ((conv => whnf); refine ⟨rfl, ?_⟩)); trivial)
      rintro k ⟨hk, hz⟩
      ((repeat ((conv => whnf); first | refine brT ?_ | refine brF ?_)); conv => whnf)
      (refine ⟨fun h4 => ?_, fun h4 => ?_⟩ <;> rw [h4])
      · have hlt : k < r.fr.length := by rw [ltI_t] at h4; omega
        have hlt2 : n + k < ss.length := by omega
        ((repeat ((conv => whnf); first | refine brT ?_ | refine brF ?_)); conv => whnf)
        refine ⟨k, r.fr[k].lv, rfl, by simp [hlt], rfl, ?_⟩
        ((repeat ((conv => whnf); first | refine brT ?_ | refine brF ?_)); conv => whnf)
        rw [show IntKind.i64.wrap ((n : Int) + (k : Int)) = ((n + k : Nat) : Int) by rw [wrap64 (by omega) (by omega)]; omega]
        refine ⟨n + k, ss[n + k].lv, rfl, by simp [hlt2], rfl, ?_⟩
        ((repeat ((conv => whnf); first | refine brT ?_ | refine brF ?_)); conv => whnf)
        have no : likeB ss[n + k] r.fr[k] = false → false = (likeL r.fr (ss.drop n)) := fun h5 => by
          rw [likeL_no (k := k) (ss := ss.drop n) hlt (by simp; omega) (by simpa using h5)]
        have e := step_i hlt hf'
        have next : likeB ss[n + k] r.fr[k] = true → ∀ j (hj : j < k + 1) (h3 : n + j < ss.length) (h4 : j < r.fr.length), likeB ss[n + j] r.fr[j] = true := fun h5 j hj h6 h7 => by
          by_cases ej : j = k
          · subst ej; exact h5
          · exact hz j (by omega) h6 h7
        (refine ⟨fun h5 => ?_, fun h5 => ?_⟩ <;> rw [h5])
        · rw [notB_t, eqI_comm] at h5
          ((repeat ((conv => whnf); first | refine brT ?_ | refine brF ?_)); conv => whnf)
          exact fin (no (by unfold likeB; rw [h5]; rfl))
        rw [notB_f, eqI_comm] at h5
        ((repeat ((conv => whnf); first | refine brT ?_ | refine brF ?_)); conv => whnf)
        (refine ⟨fun h6 => ?_, fun h6 => ?_⟩ <;> rw [h6])
        · rw [notB_t] at h6
          ((repeat ((conv => whnf); first | refine brT ?_ | refine brF ?_)); conv => whnf)
          (refine ⟨fun h7 => ?_, fun h7 => ?_⟩ <;> rw [h7])
          · rw [notB_t, eqI_comm] at h7
            ((repeat ((conv => whnf); first | refine brT ?_ | refine brF ?_)); conv => whnf)
            exact fin (no (by unfold likeB; rw [h5, h6, h7]; rfl))
          rw [notB_f, eqI_comm] at h7
          ((repeat ((conv => whnf); first | refine brT ?_ | refine brF ?_)); conv => whnf)
          refine round_end (k + 1) ⟨hlt, next (by unfold likeB; rw [h5, h6, h7]; rfl)⟩ (by omega) ⟨?_, ⟨rfl, rfl, trivial⟩, rfl, rfl⟩
          ((repeat ((conv => whnf); first | refine ⟨e, ?_⟩ | refine ⟨rfl, ?_⟩)); trivial)
        rw [notB_f] at h6
        ((repeat ((conv => whnf); first | refine brT ?_ | refine brF ?_)); conv => whnf)
        refine round_end (k + 1) ⟨hlt, next (by unfold likeB; rw [h5, h6]; rfl)⟩ (by omega) ⟨?_, ⟨rfl, rfl, trivial⟩, rfl, rfl⟩
        ((repeat ((conv => whnf); first | refine ⟨e, ?_⟩ | refine ⟨rfl, ?_⟩)); trivial)
      have h5 : k = r.fr.length := by rw [ltI_f] at h4; omega
      subst h5
      ((repeat ((conv => whnf); first | refine brT ?_ | refine brF ?_)); conv => whnf)
      refine fin ?_
      symm
      exact likeL_yes (by simp; omega) fun j hj hs3 => by
        have := hz j hj (by simp at hs3; omega) hj
        simpa using this
    · rw [notB_f] at g1
      rw [show (eqI r.sex 0 || eqI r.sex (sxOf (ss[n - 1]'hm).a)) = true by rw [g1]; rfl, Bool.true_and]
      ((repeat ((conv => whnf); first | refine brT ?_ | refine brF ?_)); conv => whnf)
      intro _
      rw [List.length_map]
      ((repeat ((conv => whnf); first | refine brT ?_ | refine brF ?_)); conv => whnf)
      refine loop_rule (α := Nat) (fun k => [(71, .int .i64 (k : Int))]) (fun _ => [.box r.lv, .box (typLV e ss)]) (fun k => r.fr.length - k) (fun k => k ≤ r.fr.length ∧ ∀ j (hj : j < k) (h3 : n + j < ss.length) (h4 : j < r.fr.length), likeB ss[n + j] r.fr[j] = true) 0 ⟨Nat.zero_le _, fun _ h => absurd h (Nat.not_lt_zero _)⟩ ?_ ?_
      · refine ⟨?_, ⟨rfl, rfl, trivial⟩, rfl, rfl⟩
        ((repeat ((conv => whnf); refine ⟨rfl, ?_⟩)); trivial)
      rintro k ⟨hk, hz⟩
      ((repeat ((conv => whnf); first | refine brT ?_ | refine brF ?_)); conv => whnf)
      (refine ⟨fun h4 => ?_, fun h4 => ?_⟩ <;> rw [h4])
      · have hlt : k < r.fr.length := by rw [ltI_t] at h4; omega
        have hlt2 : n + k < ss.length := by omega
        ((repeat ((conv => whnf); first | refine brT ?_ | refine brF ?_)); conv => whnf)
        refine ⟨k, r.fr[k].lv, rfl, by simp [hlt], rfl, ?_⟩
        ((repeat ((conv => whnf); first | refine brT ?_ | refine brF ?_)); conv => whnf)
        rw [show IntKind.i64.wrap ((n : Int) + (k : Int)) = ((n + k : Nat) : Int) by rw [wrap64 (by omega) (by omega)]; omega]
        refine ⟨n + k, ss[n + k].lv, rfl, by simp [hlt2], rfl, ?_⟩
        ((repeat ((conv => whnf); first | refine brT ?_ | refine brF ?_)); conv => whnf)
        have no : likeB ss[n + k] r.fr[k] = false → false = (likeL r.fr (ss.drop n)) := fun h5 => by
          rw [likeL_no (k := k) (ss := ss.drop n) hlt (by simp; omega) (by simpa using h5)]
        have e := step_i hlt hf'
        have next : likeB ss[n + k] r.fr[k] = true → ∀ j (hj : j < k + 1) (h3 : n + j < ss.length) (h4 : j < r.fr.length), likeB ss[n + j] r.fr[j] = true := fun h5 j hj h6 h7 => by
          by_cases ej : j = k
          · subst ej; exact h5
          · exact hz j (by omega) h6 h7
        (refine ⟨fun h5 => ?_, fun h5 => ?_⟩ <;> rw [h5])
        · rw [notB_t, eqI_comm] at h5
          ((repeat ((conv => whnf); first | refine brT ?_ | refine brF ?_)); conv => whnf)
          exact fin (no (by unfold likeB; rw [h5]; rfl))
        rw [notB_f, eqI_comm] at h5
        ((repeat ((conv => whnf); first | refine brT ?_ | refine brF ?_)); conv => whnf)
        (refine ⟨fun h6 => ?_, fun h6 => ?_⟩ <;> rw [h6])
        · rw [notB_t] at h6
          ((repeat ((conv => whnf); first | refine brT ?_ | refine brF ?_)); conv => whnf)
          (refine ⟨fun h7 => ?_, fun h7 => ?_⟩ <;> rw [h7])
          · rw [notB_t, eqI_comm] at h7
            ((repeat ((conv => whnf); first | refine brT ?_ | refine brF ?_)); conv => whnf)
            exact fin (no (by unfold likeB; rw [h5, h6, h7]; rfl))
          rw [notB_f, eqI_comm] at h7
          ((repeat ((conv => whnf); first | refine brT ?_ | refine brF ?_)); conv => whnf)
          refine round_end (k + 1) ⟨hlt, next (by unfold likeB; rw [h5, h6, h7]; rfl)⟩ (by omega) ⟨?_, ⟨rfl, rfl, trivial⟩, rfl, rfl⟩
          ((repeat ((conv => whnf); first | refine ⟨e, ?_⟩ | refine ⟨rfl, ?_⟩)); trivial)
        rw [notB_f] at h6
        ((repeat ((conv => whnf); first | refine brT ?_ | refine brF ?_)); conv => whnf)
        refine round_end (k + 1) ⟨hlt, next (by unfold likeB; rw [h5, h6]; rfl)⟩ (by omega) ⟨?_, ⟨rfl, rfl, trivial⟩, rfl, rfl⟩
        ((repeat ((conv => whnf); first | refine ⟨e, ?_⟩ | refine ⟨rfl, ?_⟩)); trivial)
      have h5 : k = r.fr.length := by rw [ltI_f] at h4; omega
      subst h5
      ((repeat ((conv => whnf); first | refine brT ?_ | refine brF ?_)); conv => whnf)
      refine fin ?_
      symm
      exact likeL_yes (by simp; omega) fun j hj hs3 => by
        have := hz j hj (by simp at hs3; omega) hj
        simpa using this
  · have hn0 : n = 0 := by rw [ltI_f] at q1; omega
    have hsx : sexAt (egoT e ss) ss n = egoT e ss := by rw [hn0]; rfl
    rw [hsx]
    ((repeat ((conv => whnf); first | refine brT ?_ | refine brF ?_)); conv => whnf)
    (refine ⟨fun g1 => ?_, fun g1 => ?_⟩ <;> rw [g1])
    · rw [notB_t] at g1
      ((repeat ((conv => whnf); first | refine brT ?_ | refine brF ?_)); conv => whnf)
      (refine ⟨fun g2 => ?_, fun g2 => ?_⟩ <;> rw [g2])
      · rw [notB_t] at g2
        ((repeat ((conv => whnf); first | refine brT ?_ | refine brF ?_)); conv => whnf)
        exact fin (by rw [g1, g2]; rfl)
      rw [notB_f] at g2
      rw [show (eqI r.sex 0 || eqI r.sex (egoT e ss)) = true by rw [g2, Bool.or_true], Bool.true_and]
      ((repeat ((conv => whnf); first | refine brT ?_ | refine brF ?_)); conv => whnf)
      intro _
      rw [List.length_map]
      ((repeat ((conv => whnf); first | refine brT ?_ | refine brF ?_)); conv => whnf)
      refine loop_rule (α := Nat) (fun k => [(71, .int .i64 (k : Int))]) (fun _ => [.box r.lv, .box (typLV e ss)]) (fun k => r.fr.length - k) (fun k => k ≤ r.fr.length ∧ ∀ j (hj : j < k) (h3 : n + j < ss.length) (h4 : j < r.fr.length), likeB ss[n + j] r.fr[j] = true) 0 ⟨Nat.zero_le _, fun _ h => absurd h (Nat.not_lt_zero _)⟩ ?_ ?_
      · refine ⟨?_, ⟨rfl, rfl, trivial⟩, rfl, rfl⟩
        ((repeat ((conv => whnf); refine ⟨rfl, ?_⟩)); trivial)
      rintro k ⟨hk, hz⟩
      ((repeat ((conv => whnf); first | refine brT ?_ | refine brF ?_)); conv => whnf)
      (refine ⟨fun h4 => ?_, fun h4 => ?_⟩ <;> rw [h4])
      · have hlt : k < r.fr.length := by rw [ltI_t] at h4; omega
        have hlt2 : n + k < ss.length := by omega
        ((repeat ((conv => whnf); first | refine brT ?_ | refine brF ?_)); conv => whnf)
        refine ⟨k, r.fr[k].lv, rfl, by simp [hlt], rfl, ?_⟩
        ((repeat ((conv => whnf); first | refine brT ?_ | refine brF ?_)); conv => whnf)
        rw [show IntKind.i64.wrap ((n : Int) + (k : Int)) = ((n + k : Nat) : Int) by rw [wrap64 (by omega) (by omega)]; omega]
        refine ⟨n + k, ss[n + k].lv, rfl, by simp [hlt2], rfl, ?_⟩
        ((repeat ((conv => whnf); first | refine brT ?_ | refine brF ?_)); conv => whnf)
        have no : likeB ss[n + k] r.fr[k] = false → false = (likeL r.fr (ss.drop n)) := fun h5 => by
          rw [likeL_no (k := k) (ss := ss.drop n) hlt (by simp; omega) (by simpa using h5)]
        have e := step_i hlt hf'
        have next : likeB ss[n + k] r.fr[k] = true → ∀ j (hj : j < k + 1) (h3 : n + j < ss.length) (h4 : j < r.fr.length), likeB ss[n + j] r.fr[j] = true := fun h5 j hj h6 h7 => by
          by_cases ej : j = k
          · subst ej; exact h5
          · exact hz j (by omega) h6 h7
        (refine ⟨fun h5 => ?_, fun h5 => ?_⟩ <;> rw [h5])
        · rw [notB_t, eqI_comm] at h5
          ((repeat ((conv => whnf); first | refine brT ?_ | refine brF ?_)); conv => whnf)
          exact fin (no (by unfold likeB; rw [h5]; rfl))
        rw [notB_f, eqI_comm] at h5
        ((repeat ((conv => whnf); first | refine brT ?_ | refine brF ?_)); conv => whnf)
        (refine ⟨fun h6 => ?_, fun h6 => ?_⟩ <;> rw [h6])
        · rw [notB_t] at h6
          ((repeat ((conv => whnf); first | refine brT ?_ | refine brF ?_)); conv => whnf)
          (refine ⟨fun h7 => ?_, fun h7 => ?_⟩ <;> rw [h7])
          · rw [notB_t, eqI_comm] at h7
            ((repeat ((conv => whnf); first | refine brT ?_ | refine brF ?_)); conv => whnf)
            exact fin (no (by unfold likeB; rw [h5, h6, h7]; rfl))
          rw [notB_f, eqI_comm] at h7
          ((repeat ((conv => whnf); first | refine brT ?_ | refine brF ?_)); conv => whnf)
          refine round_end (k + 1) ⟨hlt, next (by unfold likeB; rw [h5, h6, h7]; rfl)⟩ (by omega) ⟨?_, ⟨rfl, rfl, trivial⟩, rfl, rfl⟩
          ((repeat ((conv => whnf); first | refine ⟨e, ?_⟩ | refine ⟨rfl, ?_⟩)); trivial)
        rw [notB_f] at h6
        ((repeat ((conv => whnf); first | refine brT ?_ | refine brF ?_)); conv => whnf)
        refine round_end (k + 1) ⟨hlt, next (by unfold likeB; rw [h5, h6]; rfl)⟩ (by omega) ⟨?_, ⟨rfl, rfl, trivial⟩, rfl, rfl⟩
        ((repeat ((conv => whnf); first | refine ⟨e, ?_⟩ | refine ⟨rfl, ?_⟩)); trivial)
      have h5 : k = r.fr.length := by rw [ltI_f] at h4; omega
      subst h5
      ((repeat ((conv => whnf); first | refine brT ?_ | refine brF ?_)); conv => whnf)
      refine fin ?_
      symm
      exact likeL_yes (by simp; omega) fun j hj hs3 => by
        have := hz j hj (by simp at hs3; omega) hj
        simpa using this
    · rw [notB_f] at g1
      rw [show (eqI r.sex 0 || eqI r.sex (egoT e ss)) = true by rw [g1]; rfl, Bool.true_and]
      ((repeat ((conv => whnf); first | refine brT ?_ | refine brF ?_)); conv => whnf)
      intro _
      rw [List.length_map]
      ((repeat ((conv => whnf); first | refine brT ?_ | refine brF ?_)); conv => whnf)
      refine loop_rule (α := Nat) (fun k => [(71, .int .i64 (k : Int))]) (fun _ => [.box r.lv, .box (typLV e ss)]) (fun k => r.fr.length - k) (fun k => k ≤ r.fr.length ∧ ∀ j (hj : j < k) (h3 : n + j < ss.length) (h4 : j < r.fr.length), likeB ss[n + j] r.fr[j] = true) 0 ⟨Nat.zero_le _, fun _ h => absurd h (Nat.not_lt_zero _)⟩ ?_ ?_
      · refine ⟨?_, ⟨rfl, rfl, trivial⟩, rfl, rfl⟩
        ((repeat ((conv => whnf); refine ⟨rfl, ?_⟩)); trivial)
      rintro k ⟨hk, hz⟩
      ((repeat ((conv => whnf); first | refine brT ?_ | refine brF ?_)); conv => whnf)
      (refine ⟨fun h4 => ?_, fun h4 => ?_⟩ <;> rw [h4])
      · have hlt : k < r.fr.length := by rw [ltI_t] at h4; omega
        have hlt2 : n + k < ss.length := by omega
        ((repeat ((conv => whnf); first | refine brT ?_ | refine brF ?_)); conv => whnf)
        refine ⟨k, r.fr[k].lv, rfl, by simp [hlt], rfl, ?_⟩
        ((repeat ((conv => whnf); first | refine brT ?_ | refine brF ?_)); conv => whnf)
        rw [show IntKind.i64.wrap ((n : Int) + (k : Int)) = ((n + k : Nat) : Int) by rw [wrap64 (by omega) (by omega)]; omega]
        refine ⟨n + k, ss[n + k].lv, rfl, by simp [hlt2], rfl, ?_⟩
        ((repeat ((conv => whnf); first | refine brT ?_ | refine brF ?_)); conv => whnf)
        have no : likeB ss[n + k] r.fr[k] = false → false = (likeL r.fr (ss.drop n)) := fun h5 => by
          rw [likeL_no (k := k) (ss := ss.drop n) hlt (by simp; omega) (by simpa using h5)]
        have e := step_i hlt hf'
        have next : likeB ss[n + k] r.fr[k] = true → ∀ j (hj : j < k + 1) (h3 : n + j < ss.length) (h4 : j < r.fr.length), likeB ss[n + j] r.fr[j] = true := fun h5 j hj h6 h7 => by
          by_cases ej : j = k
          · subst ej; exact h5
          · exact hz j (by omega) h6 h7
        (refine ⟨fun h5 => ?_, fun h5 => ?_⟩ <;> rw [h5])
        · rw [notB_t, eqI_comm] at h5
          ((repeat ((conv => whnf); first | refine brT ?_ | refine brF ?_)); conv => whnf)
          exact fin (no (by unfold likeB; rw [h5]; rfl))
        rw [notB_f, eqI_comm] at h5
        ((repeat ((conv => whnf); first | refine brT ?_ | refine brF ?_)); conv => whnf)
        (refine ⟨fun h6 => ?_, fun h6 => ?_⟩ <;> rw [h6])
        · rw [notB_t] at h6
          ((repeat ((conv => whnf); first | refine brT ?_ | refine brF ?_)); conv => whnf)
          (refine ⟨fun h7 => ?_, fun h7 => ?_⟩ <;> rw [h7])
          · rw [notB_t, eqI_comm] at h7
            ((repeat ((conv => whnf); first | refine brT ?_ | refine brF ?_)); conv => whnf)
            exact fin (no (by unfold likeB; rw [h5, h6, h7]; rfl))
          rw [notB_f, eqI_comm] at h7
          ((repeat ((conv => whnf); first | refine brT ?_ | refine brF ?_)); conv => whnf)
          refine round_end (k + 1) ⟨hlt, next (by unfold likeB; rw [h5, h6, h7]; rfl)⟩ (by omega) ⟨?_, ⟨rfl, rfl, trivial⟩, rfl, rfl⟩
          ((repeat ((conv => whnf); first | refine ⟨e, ?_⟩ | refine ⟨rfl, ?_⟩)); trivial)
        rw [notB_f] at h6
        ((repeat ((conv => whnf); first | refine brT ?_ | refine brF ?_)); conv => whnf)
        refine round_end (k + 1) ⟨hlt, next (by unfold likeB; rw [h5, h6]; rfl)⟩ (by omega) ⟨?_, ⟨rfl, rfl, trivial⟩, rfl, rfl⟩
        ((repeat ((conv => whnf); first | refine ⟨e, ?_⟩ | refine ⟨rfl, ?_⟩)); trivial)
      have h5 : k = r.fr.length := by rw [ltI_f] at h4; omega
      subst h5
      ((repeat ((conv => whnf); first | refine brT ?_ | refine brF ?_)); conv => whnf)
      refine fin ?_
      symm
      exact likeL_yes (by simp; omega) fun j hj hs3 => by
        have := hz j hj (by simp at hs3; omega) hj
        simpa using this
end Go.Proofs.Ytfoecpjebbgegaa

namespace Go.Proofs.Ytfoecpjebbgegaa
open Go.Lg
set_option maxHeartbeats 1600000
set_option maxRecDepth 10000
set_option linter.unusedVariables false
set_option linter.unusedSimpArgs false

def fitsAtB (r : Rul) (e : Int) (ss : List Pr) (i : Int) : Bool := ruleB r && (typB e ss && fitsB r (egoT e ss) ss i)
theorem fitsAt_impl (r : Rul) (e : Int) (ss : List Pr) (i : Int) : FSpec env.P 33 [r.lv, typLV e ss, .int .i64 i] (.bool (fitsAtB r e ss i)) := by
  refine FSpec_of_code env_ok (fn := Try.f33) Try.func33 rfl Try.call33 _ _ ?_
  ((repeat ((conv => whnf); first | refine brT ?_ | refine brF ?_)); conv => whnf)
  refine ⟨_, isRule_impl r, ?_⟩
  ((repeat ((conv => whnf); first | refine brT ?_ | refine brF ?_)); conv => whnf)
  (refine ⟨fun h1 => ?_, fun h1 => ?_⟩ <;> rw [h1])
  rotate_left
  · ((repeat ((conv => whnf); first | refine brT ?_ | refine brF ?_)); conv => whnf); exact fin (by unfold fitsAtB; rw [h1]; rfl)
  ((repeat ((conv => whnf); first | refine brT ?_ | refine brF ?_)); conv => whnf)
  refine ⟨_, isType_impl e ss, ?_⟩
  ((repeat ((conv => whnf); first | refine brT ?_ | refine brF ?_)); conv => whnf)
  (refine ⟨fun h2 => ?_, fun h2 => ?_⟩ <;> rw [h2])
  rotate_left
  · ((repeat ((conv => whnf); first | refine brT ?_ | refine brF ?_)); conv => whnf); exact fin (by unfold fitsAtB; rw [h1, h2]; rfl)
  have he : egoR e ss = egoT e ss := by unfold egoR; rw [h2]
  ((repeat ((conv => whnf); first | refine brT ?_ | refine brF ?_)); conv => whnf)
  refine ⟨_, withSex_spec e ss, ?_⟩
  ((repeat ((conv => whnf); first | refine brT ?_ | refine brF ?_)); conv => whnf)
  refine ⟨_, fits_impl r (egoR e ss) ss i, ?_⟩
  rw [he]
  ((repeat ((conv => whnf); first | refine brT ?_ | refine brF ?_)); conv => whnf)
  exact fin (by unfold fitsAtB; rw [h1, h2]; rfl)
theorem fitsAt_spec (r : Rul) (e : Int) (ss : List Pr) (i : Int) : FSpec env.P 31 [r.lv, typLV e ss, .int .i64 i] (.bool (fitsAtB r e ss i)) := by
  refine FSpec_of_code env_ok (fn := Try.f31) Try.func31 rfl Try.call31 _ _ ?_
  ((repeat ((conv => whnf); first | refine brT ?_ | refine brF ?_)); conv => whnf)
  refine ⟨_, isRule_spec r, ?_⟩
  ((repeat ((conv => whnf); first | refine brT ?_ | refine brF ?_)); conv => whnf)
  (refine ⟨fun h1 => ?_, fun h1 => ?_⟩ <;> rw [h1])
  rotate_left
  · ((repeat ((conv => whnf); first | refine brT ?_ | refine brF ?_)); conv => whnf); exact fin (by unfold fitsAtB; rw [h1]; rfl)
  ((repeat ((conv => whnf); first | refine brT ?_ | refine brF ?_)); conv => whnf)
  refine ⟨_, isType_spec e ss, ?_⟩
  ((repeat ((conv => whnf); first | refine brT ?_ | refine brF ?_)); conv => whnf)
  (refine ⟨fun h2 => ?_, fun h2 => ?_⟩ <;> rw [h2])
  rotate_left
  · ((repeat ((conv => whnf); first | refine brT ?_ | refine brF ?_)); conv => whnf); exact fin (by unfold fitsAtB; rw [h1, h2]; rfl)
  ((repeat ((conv => whnf); first | refine brT ?_ | refine brF ?_)); conv => whnf)
  refine ⟨_, l4Fits_spec r e ss i, ?_⟩
  ((repeat ((conv => whnf); first | refine brT ?_ | refine brF ?_)); conv => whnf)
  exact fin (by unfold fitsAtB; rw [h1, h2]; rfl)
theorem law_fitsAt (r : Rul) (e : Int) (ss : List Pr) (i : Int) (hr : r.OK) (hl : ss.length ≤ Go.maxLen) : FSpec env.P 5 [r.lv, typLV e ss, .int .i64 i] (.bool true) := by
  refine FSpec_of_code env_ok (fn := Try.f5) Try.func5 rfl Try.call5 _ _ ?_
  ((repeat ((conv => whnf); first | refine brT ?_ | refine brF ?_)); conv => whnf)
  refine ⟨_, szRule_spec r 1048576, ?_⟩
  ((repeat ((conv => whnf); first | refine brT ?_ | refine brF ?_)); conv => whnf)
  (refine ⟨fun h => ?_, fun h => ?_⟩ <;> rw [h])
  · ((repeat ((conv => whnf); first | refine brT ?_ | refine brF ?_)); conv => whnf)
    exact fin rfl
  obtain ⟨hB, h0, h1⟩ := szR_B hr (by omega) (by omega) h
  ((repeat ((conv => whnf); first | refine brT ?_ | refine brF ?_)); conv => whnf)
  refine ⟨_, szKinType_spec e ss (szR 1048576 r), ?_⟩
  by_cases h2 : 0 ≤ szT (szR 1048576 r) ss.length
  rotate_left
  · ((repeat ((conv => whnf); first | refine brT ?_ | refine brF ?_)); conv => whnf)
    rw [show ltI (szT (szR 1048576 r) ss.length) 0 = true by rw [ltI_t]; omega]
    ((repeat ((conv => whnf); first | refine brT ?_ | refine brF ?_)); conv => whnf)
    exact fin rfl
  obtain ⟨-, -, hf, hb, -⟩ := szT_ok h0 h1 hl h2
  ((repeat ((conv => whnf); first | refine brT ?_ | refine brF ?_)); conv => whnf)
  rw [hf]
  ((repeat ((conv => whnf); first | refine brT ?_ | refine brF ?_)); conv => whnf)
  refine ⟨true, by kernel_rfl, ?_⟩
  ((repeat ((conv => whnf); first | refine brT ?_ | refine brF ?_)); conv => whnf)
  refine ⟨_, toRule_f r hB.1 hB.2.1, ?_⟩
  ((repeat ((conv => whnf); first | refine brT ?_ | refine brF ?_)); conv => whnf)
  refine ⟨_, toKinType_f e ss hb, ?_⟩
  ((repeat ((conv => whnf); first | refine brT ?_ | refine brF ?_)); conv => whnf)
  refine ⟨_, fitsAt_spec r e ss i, ?_⟩
  ((repeat ((conv => whnf); first | refine brT ?_ | refine brF ?_)); conv => whnf)
  refine ⟨_, toRule_f r hB.1 hB.2.1, ?_⟩
  ((repeat ((conv => whnf); first | refine brT ?_ | refine brF ?_)); conv => whnf)
  refine ⟨_, toKinType_f e ss hb, ?_⟩
  ((repeat ((conv => whnf); first | refine brT ?_ | refine brF ?_)); conv => whnf)
  refine ⟨_, fitsAt_impl r e ss i, ?_⟩
  ((repeat ((conv => whnf); first | refine brT ?_ | refine brF ?_)); conv => whnf)
  rw [eqB_refl, show notB true = false by simp [notB]]
  ((repeat ((conv => whnf); first | refine brT ?_ | refine brF ?_)); conv => whnf)
  refine ⟨true, by kernel_rfl, ?_⟩
  ((repeat ((conv => whnf); first | refine brT ?_ | refine brF ?_)); conv => whnf)
  refine ⟨_, toRule_f r hB.1 hB.2.1, ?_⟩
  ((repeat ((conv => whnf); first | refine brT ?_ | refine brF ?_)); conv => whnf)
  refine ⟨_, eqRule_spec r r, ?_⟩
  rw [Rul.eq_refl]
  ((repeat ((conv => whnf); first | refine brT ?_ | refine brF ?_)); conv => whnf)
  rw [show notB true = false by simp [notB]]
  ((repeat ((conv => whnf); first | refine brT ?_ | refine brF ?_)); conv => whnf)
  refine ⟨true, by kernel_rfl, ?_⟩
  ((repeat ((conv => whnf); first | refine brT ?_ | refine brF ?_)); conv => whnf)
  refine ⟨_, toKinType_f e ss hb, ?_⟩
  ((repeat ((conv => whnf); first | refine brT ?_ | refine brF ?_)); conv => whnf)
  refine ⟨_, eqKinType_spec e ss e ss, ?_⟩
  rw [eqTyp_refl]
  ((repeat ((conv => whnf); first | refine brT ?_ | refine brF ?_)); conv => whnf)
  rw [show notB true = false by simp [notB]]
  ((repeat ((conv => whnf); first | refine brT ?_ | refine brF ?_)); conv => whnf)
  exact fin rfl
end Go.Proofs.Ytfoecpjebbgegaa

namespace Go.Proofs.Ytfoecpjebbgegaa
open Go.Lg
set_option maxHeartbeats 1600000
set_option maxRecDepth 10000
set_option linter.unusedVariables false
set_option linter.unusedSimpArgs false

theorem grow_h (n : Nat) (hn : n * 16 ≤ 140737488355328) : HSpec env.P 156 [.nil, .int .i64 (n : Int)] [] (.hs 0 0) [.arr 84 2 []] := by
  refine HSpec_of_code (E := env.x [] 0) env_ok.x (fn := Try.f156) Try.func156 rfl Try.call156 _ _ _ _ ?_
  ((repeat ((conv => whnf); first | refine brT ?_ | refine brF ?_)); conv => whnf)
  (refine ⟨fun h1 => ?_, fun h1 => ?_⟩ <;> rw [h1])
  · rw [ltI_t] at h1; omega
  ((repeat ((conv => whnf); first | refine brT ?_ | refine brF ?_)); conv => whnf)
  have hw : IntKind.i64.wrap ((n : Int) - IntKind.i64.wrap (0 - 0)) = (n : Int) := by
    rw [show IntKind.i64.wrap (0 - 0) = 0 by rw [wrap64 (by omega) (by omega)]; omega, wrap64 (by omega) (by omega)]; omega
  rw [hw]
  (refine ⟨fun h2 => ?_, fun h2 => ?_⟩ <;> rw [h2])
  · rw [ltI_t] at h2
    ((repeat ((conv => whnf); first | refine brT ?_ | refine brF ?_)); conv => whnf)
    refine ⟨rfl, rfl, ?_⟩
    ((repeat ((conv => whnf); first | refine brT ?_ | refine brF ?_)); conv => whnf)
    refine ⟨n, rfl, by omega, by unfold Go.maxLen; omega, hn, rfl, by decide, _, rfl, ?_⟩
    ((repeat ((conv => whnf); first | refine brT ?_ | refine brF ?_)); conv => whnf)
    refine ⟨by simp, 0, rfl, rfl, Nat.zero_le _, [], by simp, ?_⟩
    ((repeat ((conv => whnf); first | refine brT ?_ | refine brF ?_)); conv => whnf)
    exact ⟨[.hs 0 0], by simp [tupOf], rfl, .inr ⟨[.old 1], ⟨rfl, rfl, trivial⟩, ⟨rfl, rfl, trivial⟩, rfl⟩⟩
  · rw [ltI_f] at h2
    have : n = 0 := by omega
    subst this
    ((repeat ((conv => whnf); first | refine brT ?_ | refine brF ?_)); conv => whnf)
    exact ⟨[.hs 0 0], by simp [tupOf], rfl, .nl [.tmp 0 [] false 84 2] [.old 0] ⟨⟨rfl, rfl, trivial⟩, ⟨rfl, rfl, trivial⟩, rfl⟩⟩
def slL (ss : List Pr) : LV := .sl (ss.map Pr.lv)
theorem flat_take_succ {xss : List (List Pr)} {k : Nat} (h : k < xss.length) : (xss.take (k + 1)).flatten = (xss.take k).flatten ++ xss[k] := by
  rw [List.take_succ_eq_append_getElem h, List.flatten_append]; simp
theorem flat_take_le (xss : List (List Pr)) (k : Nat) : (xss.take k).flatten.length ≤ xss.flatten.length := by
  conv => rhs; rw [← List.take_append_drop k xss]
  rw [List.flatten_append, List.length_append]; omega
theorem concat_h (xss : List (List Pr)) (hn : xss.flatten.length * 16 ≤ 140737488355328) : HSpec env.P 108 [.sl (xss.map slL)] [] (.hs 0 (xss.flatten.map Pr.lv).length) [.arr 84 2 (xss.flatten.map Pr.lv)] := by
  refine HSpec_of_code (E := env.x [156] 0) env_ok.x (fn := Try.f108) Try.func108 rfl Try.call108 _ _ _ _ ?_
  ((repeat ((conv => whnf); first | refine brT ?_ | refine brF ?_)); conv => whnf)
  intro hm
  rw [List.length_map] at hm ⊢
  ((repeat ((conv => whnf); first | refine brT ?_ | refine brF ?_)); conv => whnf)
  refine loop_rule (α := Nat) (fun k => [(11, .int .i64 (k : Int)), (3, .int .i64 (((xss.take k).flatten.length : Nat) : Int))]) (fun _ => []) (fun k => xss.length - k) (fun k => k ≤ xss.length) 0 (Nat.zero_le _) ?_ ?_
  · refine ⟨?_, trivial, rfl, rfl⟩
    ((repeat ((conv => whnf); refine ⟨rfl, ?_⟩)); trivial)
  rintro k hk
  ((repeat ((conv => whnf); first | refine brT ?_ | refine brF ?_)); conv => whnf)
  (refine ⟨fun h1 => ?_, fun h1 => ?_⟩ <;> rw [h1])
  · have hlt : k < xss.length := by rw [ltI_t] at h1; omega
    have hle := flat_take_le xss (k + 1)
    have hs := flat_take_succ hlt
    have hle2 := hle
    rw [hs, List.length_append] at hle2
    ((repeat ((conv => whnf); first | refine brT ?_ | refine brF ?_)); conv => whnf)
    refine ⟨k, slL xss[k], rfl, by simp [hlt], rfl, ?_⟩
    ((repeat ((conv => whnf); first | refine brT ?_ | refine brF ?_)); conv => whnf)
    intro hm2
    have el : (xss[k].map Pr.lv).length = xss[k].length := List.length_map ..
    rw [el]
    ((repeat ((conv => whnf); first | refine brT ?_ | refine brF ?_)); conv => whnf)
    have e2 : IntKind.i64.wrap ((((xss.take k).flatten.length : Nat) : Int) + ((xss[k].length : Nat) : Int)) = (((xss.take (k + 1)).flatten.length : Nat) : Int) := by
      rw [wrap64 (by omega) (by omega), hs, List.length_append]; omega
    rw [e2]
    (refine ⟨fun h2 => ?_, fun h2 => ?_⟩ <;> rw [h2])
    · rw [ltI_t] at h2; omega
    ((repeat ((conv => whnf); first | refine brT ?_ | refine brF ?_)); conv => whnf)
    refine round_end (k + 1) hlt (by omega) ⟨?_, trivial, rfl, rfl⟩
    have e := step_i hlt hm
    ((repeat ((conv => whnf); first | refine ⟨e, ?_⟩ | refine ⟨rfl, ?_⟩)); trivial)
  have h4 : k = xss.length := by rw [ltI_f] at h1; omega
  subst h4
  rw [List.take_length]
  ((repeat ((conv => whnf); first | refine brT ?_ | refine brF ?_)); conv => whnf)
  refine ⟨[], _, _, _, _, grow_h xss.flatten.length hn, rfl, rfl, rfl, trivial, ?_⟩
  ((repeat ((conv => whnf); first | refine brT ?_ | refine brF ?_)); conv => whnf)
  intro hm3
  rw [List.length_map]
  ((repeat ((conv => whnf); first | refine brT ?_ | refine brF ?_)); conv => whnf)
  refine loop_rule (α := Nat) (fun k => [(27, .int .i64 (k : Int)), (24, .undef), (6, .hs 0 ((xss.take k).flatten.map Pr.lv).length)]) (fun k => [.arr 84 2 ((xss.take k).flatten.map Pr.lv)]) (fun k => xss.length - k) (fun k => k ≤ xss.length) 0 (Nat.zero_le _) ?_ ?_
  · refine ⟨?_, ⟨rfl, trivial⟩, rfl, rfl⟩
    ((repeat ((conv => whnf); refine ⟨rfl, ?_⟩)); trivial)
  rintro k hk
  ((repeat ((conv => whnf); first | refine brT ?_ | refine brF ?_)); conv => whnf)
  (refine ⟨fun h2 => ?_, fun h2 => ?_⟩ <;> rw [h2])
  · have hlt : k < xss.length := by rw [ltI_t, List.length_map] at h2; omega
    have hle := flat_take_le xss (k + 1)
    have hs := flat_take_succ hlt
    have e2 : ((xss.take k).flatten.map Pr.lv ++ xss[k].map Pr.lv) = (xss.take (k + 1)).flatten.map Pr.lv := by rw [hs, List.map_append]
    have e3 : LV.hs 0 ((xss.take k).flatten.map Pr.lv ++ xss[k].map Pr.lv).length = LV.hs 0 ((xss.take (k + 1)).flatten.map Pr.lv).length := by rw [e2]
    ((repeat ((conv => whnf); first | refine brT ?_ | refine brF ?_)); conv => whnf)
    refine ⟨k, slL xss[k], rfl, by simp [hlt], rfl, ?_⟩
    ((repeat ((conv => whnf); first | refine brT ?_ | refine brF ?_)); conv => whnf)
    refine ⟨fun y hy => ?_, rfl, ?_, ?_, ?_⟩
    · obtain ⟨p, _, rfl⟩ := List.mem_map.1 hy; rfl
    · rw [e2, List.length_map]; unfold Go.maxLen; omega
    · rw [e2, List.length_map]; show _ * 16 ≤ _; omega
    ((repeat ((conv => whnf); first | refine brT ?_ | refine brF ?_)); conv => whnf)
    refine round_endR [.old 1] (k + 1) hlt (by omega) ⟨?_, ⟨rfl, congrArg (Blk.arr 84 2) e2, trivial⟩, rfl⟩
    have e := step_i hlt hm
    (repeat ((conv => whnf); first | refine ⟨rfl, e, ?_⟩ | refine ⟨rfl, e3, ?_⟩ | refine ⟨rfl, rfl, ?_⟩))
    trivial
  have h5 : k = xss.length := by rw [ltI_f, List.length_map] at h2; omega
  subst h5
  rw [List.take_length]
  ((repeat ((conv => whnf); first | refine brT ?_ | refine brF ?_)); conv => whnf)
  exact ⟨[.hs 0 (xss.flatten.map Pr.lv).length], by rw [List.length_map]; rfl, rfl, .inl ⟨⟨rfl, trivial⟩, ⟨rfl, trivial⟩, rfl, rfl⟩⟩
theorem concat_f (xss : List (List Pr)) (hn : xss.flatten.length * 16 ≤ 140737488355328) : FSpec env.P 108 [.sl (xss.map slL)] (.own 84 2 (xss.flatten.map Pr.lv)) :=
  FSpec_of_HSpec (concat_h xss hn) (by simp only [exW]; exact ⟨rfl, rfl, rfl, rfl, by simp⟩)
end Go.Proofs.Ytfoecpjebbgegaa
