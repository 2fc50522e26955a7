/- Contracts of functions of the program and of its model, told over readings. -/
import Derived.Test.YtpfipmjmblgjfaaHWGC
import Derived.Test.YtpfipmjmblgjfaaHWGA
import Derived.Test.YtpfipmjmblgjfaaHLgWS
namespace Go.Proofs.Ytpfipmjmblgjfaa
open Go.Lg
set_option maxHeartbeats 1600000
set_option maxRecDepth 10000
set_option linter.unusedVariables false
set_option linter.unusedSimpArgs false

def placeB (x : Int) : Bool := eqI x 0 || eqI x 1 || eqI x 2
def ruleB (r : Rul) : Bool := isName r.name && (placeB r.place && ((leI 1 (r.fr.length : Int) && leI (r.fr.length : Int) 4) && (befP r.to r.fr && keepB r.sex r.fr r.to)))
theorem isRule_impl (r : Rul) : FSpec env.P 149 [r.lv] (.bool (ruleB r)) := by
  refine FSpec_of_code env_ok (fn := Try.f149) Try.func149 rfl Try.call149 _ _ ?_
  ((repeat ((conv => whnf); first | refine brT ?_ | refine brF ?_)); conv => whnf)
  refine ⟨_, isNameImpl_spec r.name, ?_⟩
  ((repeat ((conv => whnf); first | refine brT ?_ | refine brF ?_)); conv => whnf)
  (refine ⟨fun h1 => ?_, fun h1 => ?_⟩ <;> rw [h1])
  · rw [notB_t] at h1
    ((repeat ((conv => whnf); first | refine brT ?_ | refine brF ?_)); conv => whnf)
    exact fin (by unfold ruleB; rw [h1]; rfl)
  rw [notB_f] at h1
  ((repeat ((conv => whnf); first | refine brT ?_ | refine brF ?_)); conv => whnf)
  refine ⟨_, isPlace_spec r.place, ?_⟩
  ((repeat ((conv => whnf); first | refine brT ?_ | refine brF ?_)); conv => whnf)
  (refine ⟨fun h2 => ?_, fun h2 => ?_⟩ <;> rw [h2])
  · rw [notB_t] at h2
    ((repeat ((conv => whnf); first | refine brT ?_ | refine brF ?_)); conv => whnf)
    exact fin (by unfold ruleB placeB; rw [h1, h2]; rfl)
  rw [notB_f] at h2
  ((repeat ((conv => whnf); first | refine brT ?_ | refine brF ?_)); conv => whnf)
  intro _
  rw [List.length_map]
  ((repeat ((conv => whnf); first | refine brT ?_ | refine brF ?_)); conv => whnf)
  (refine ⟨fun h3 => ?_, fun h3 => ?_⟩ <;> rw [h3])
  · ((repeat ((conv => whnf); first | refine brT ?_ | refine brF ?_)); conv => whnf)
    exact fin (by unfold ruleB placeB; rw [h1, h2, show leI 1 (r.fr.length : Int) = false by rw [leI_f]; rw [ltI_t] at h3; omega]; rfl)
  ((repeat ((conv => whnf); first | refine brT ?_ | refine brF ?_)); conv => whnf)
  intro _
  rw [List.length_map]
  ((repeat ((conv => whnf); first | refine brT ?_ | refine brF ?_)); conv => whnf)
  (refine ⟨fun h4 => ?_, fun h4 => ?_⟩ <;> rw [h4])
  · ((repeat ((conv => whnf); first | refine brT ?_ | refine brF ?_)); conv => whnf)
    exact fin (by unfold ruleB placeB; rw [h1, h2, show leI (r.fr.length : Int) 4 = false by rw [leI_f]; rw [ltI_t] at h4; omega]; simp)
  rw [ltI_f] at h3 h4
  have h34 : (leI 1 (r.fr.length : Int) && leI (r.fr.length : Int) 4) = true := by
    rw [Bool.and_eq_true, leI_t, leI_t]; omega
  ((repeat ((conv => whnf); first | refine brT ?_ | refine brF ?_)); conv => whnf)
  refine ⟨_, compareParts_spec r.to r.fr, ?_⟩
  ((repeat ((conv => whnf); first | refine brT ?_ | refine brF ?_)); conv => whnf)
  rw [cmpPt_neg]
  (refine ⟨fun h5 => ?_, fun h5 => ?_⟩ <;> rw [h5])
  · ((repeat ((conv => whnf); first | refine brT ?_ | refine brF ?_)); conv => whnf)
    refine ⟨_, keepsSexes_spec r, ?_⟩
    ((repeat ((conv => whnf); first | refine brT ?_ | refine brF ?_)); conv => whnf)
    exact fin (by unfold ruleB placeB; rw [h1, h2, h34, h5]; rfl)
  · ((repeat ((conv => whnf); first | refine brT ?_ | refine brF ?_)); conv => whnf)
    exact fin (by unfold ruleB placeB; rw [h1, h2, h34, h5]; rfl)
theorem eqI_comm (a b : Int) : eqI a b = eqI b a := by rw [Bool.eq_iff_iff, eqI_t, eqI_t]; exact eq_comm
def relB (x s : Int) : Bool := eqI x 0 || eqI x s
theorem keepB_rel {x : Int} {fr to : List Pr} (h : (leI 0 x && leI x 2) = true) : ([1, 2].all (fun s => !relB x s || okS fr to s) && [1, 2].any fun s => relB x s && typB s fr) = keepB x fr to := by
  rw [Bool.and_eq_true, leI_t, leI_t] at h
  have hx : x = 0 ∨ x = 1 ∨ x = 2 := by omega
  rcases hx with rfl | rfl | rfl
  · simp [keepB, sexL, relB, eqI_refl]
  · simp [keepB, sexL, relB, eqI_refl, show eqI 1 0 = false by rw [eqI_f]; omega, show eqI 1 2 = false by rw [eqI_f]; omega]
  · simp [keepB, sexL, relB, eqI_refl, show eqI 2 0 = false by rw [eqI_f]; omega, show eqI 2 1 = false by rw [eqI_f]; omega]
theorem keepB_sex {x : Int} {fr to : List Pr} (h : (leI 0 x && leI x 2) = false) : keepB x fr to = false := by
  have h0 : eqI x 0 = false := by
    rw [eqI_f]; intro e; subst e
    rw [show leI 0 0 = true by rw [leI_t]; omega, show leI 0 2 = true by rw [leI_t]; omega] at h
    cases h
  have h1 : typB x fr = false := typB_e h
  simp [keepB, sexL, h0, h1]
theorem placeB_in (x : Int) : (leI 0 x && leI x 2) = placeB x := by unfold placeB; simp only [leI_d, eqI_d]; grind
theorem isRule_spec (r : Rul) : FSpec env.P 148 [r.lv] (.bool (ruleB r)) := by
  refine FSpec_of_code env_ok (fn := Try.f148) Try.func148 rfl Try.call148 _ _ ?_
  ((repeat ((conv => whnf); first | refine brT ?_ | refine brF ?_)); conv => whnf)
  refine ⟨_, isName_spec r.name, ?_⟩
  ((repeat ((conv => whnf); first | refine brT ?_ | refine brF ?_)); conv => whnf)
  (refine ⟨fun h1 => ?_, fun h1 => ?_⟩ <;> rw [h1])
  · rw [notB_t] at h1
    ((repeat ((conv => whnf); first | refine brT ?_ | refine brF ?_)); conv => whnf)
    exact fin (by unfold ruleB; rw [h1]; rfl)
  rw [notB_f] at h1
  ((repeat ((conv => whnf); first | refine brT ?_ | refine brF ?_)); conv => whnf)
  refine ⟨_, l1In_spec r.sex 0 2, ?_⟩
  ((repeat ((conv => whnf); first | refine brT ?_ | refine brF ?_)); conv => whnf)
  (refine ⟨fun h0 => ?_, fun h0 => ?_⟩ <;> rw [h0])
  · rw [notB_t] at h0
    ((repeat ((conv => whnf); first | refine brT ?_ | refine brF ?_)); conv => whnf)
    exact fin (by unfold ruleB; rw [keepB_sex h0]; simp)
  rw [notB_f] at h0
  ((repeat ((conv => whnf); first | refine brT ?_ | refine brF ?_)); conv => whnf)
  refine ⟨_, l1In_spec r.place 0 2, ?_⟩
  ((repeat ((conv => whnf); first | refine brT ?_ | refine brF ?_)); conv => whnf)
  (refine ⟨fun h2 => ?_, fun h2 => ?_⟩ <;> rw [h2])
  · rw [notB_t, placeB_in] at h2
    ((repeat ((conv => whnf); first | refine brT ?_ | refine brF ?_)); conv => whnf)
    exact fin (by unfold ruleB; rw [h1, h2]; rfl)
  rw [notB_f, placeB_in] at h2
  ((repeat ((conv => whnf); first | refine brT ?_ | refine brF ?_)); conv => whnf)
  intro _
  rw [List.length_map]
  ((repeat ((conv => whnf); first | refine brT ?_ | refine brF ?_)); conv => whnf)
  refine ⟨_, l1In_spec (r.fr.length : Int) 1 4, ?_⟩
  ((repeat ((conv => whnf); first | refine brT ?_ | refine brF ?_)); conv => whnf)
  (refine ⟨fun h3 => ?_, fun h3 => ?_⟩ <;> rw [h3])
  · rw [notB_t] at h3
    ((repeat ((conv => whnf); first | refine brT ?_ | refine brF ?_)); conv => whnf)
    exact fin (by unfold ruleB; rw [h1, h2, h3]; rfl)
  rw [notB_f] at h3
  ((repeat ((conv => whnf); first | refine brT ?_ | refine brF ?_)); conv => whnf)
  refine ⟨_, l4Before_spec r.to r.fr, ?_⟩
  ((repeat ((conv => whnf); first | refine brT ?_ | refine brF ?_)); conv => whnf)
  (refine ⟨fun h5 => ?_, fun h5 => ?_⟩ <;> rw [h5])
  · rw [notB_t] at h5
    ((repeat ((conv => whnf); first | refine brT ?_ | refine brF ?_)); conv => whnf)
    exact fin (by unfold ruleB; rw [h1, h2, h3, h5]; rfl)
  rw [notB_f] at h5
  have hr : ruleB r = keepB r.sex r.fr r.to := by unfold ruleB; rw [h1, h2, h3, h5]; rfl
  rw [hr, ← keepB_rel h0]
  generalize hg : ([1, 2] : List Int) = L
  have hl : L.length = 2 := by rw [← hg]; rfl
  ((repeat ((conv => whnf); first | refine brT ?_ | refine brF ?_)); conv => whnf)
  refine loop_rule (α := Nat) (fun k => [(4, .int .i64 ((k + 1 : Nat) : Int)), (3, .bool ((L.take k).any fun s => relB r.sex s && typB s r.fr))]) (fun _ => [.box r.lv]) (fun k => 2 - k)
      (fun k => k ≤ 2 ∧ (L.take k).all (fun s => !relB r.sex s || okS r.fr r.to s) = true) 0 ⟨Nat.zero_le _, rfl⟩ ?_ ?_
  · refine ⟨?_, ?_, rfl, rfl⟩
    · ((repeat ((conv => whnf); refine ⟨rfl, ?_⟩)); trivial)
    · ((repeat ((conv => whnf); refine ⟨rfl, ?_⟩)); trivial)
  rintro k ⟨hk, hz⟩
  ((repeat ((conv => whnf); first | refine brT ?_ | refine brF ?_)); conv => whnf)
  (refine ⟨fun h6 => ?_, fun h6 => ?_⟩ <;> rw [h6])
  · have hlt : k < 2 := by rw [leI_t] at h6; omega
    have hlt2 : k < L.length := by omega
    have hLk : L[k] = ((k + 1 : Nat) : Int) := by
      subst hg
      rcases (show k = 0 ∨ k = 1 by omega) with rfl | rfl <;> rfl
    have e := step_i (show k + 1 < 3 by omega) (show 3 ≤ Go.maxLen by decide)
    ((repeat ((conv => whnf); first | refine brT ?_ | refine brF ?_)); conv => whnf)
    rw [← hLk]
    -- a test of two parts, then the type
    have skip : ∀ {b : Bool}, (relB r.sex L[k] && typB L[k] r.fr) = false → ((L.take (k + 1)).all (fun s => !relB r.sex s || okS r.fr r.to s) = true) ∧ LV.bool ((L.take k).any fun s => relB r.sex s && typB s r.fr) = LV.bool ((L.take (k + 1)).any fun s => relB r.sex s && typB s r.fr) := fun {_} hs => by
      refine ⟨all_take_succ hlt2 hz ?_, by rw [any_take_succ hlt2, hs, Bool.or_false]⟩
      cases hrel : relB r.sex L[k]
      · rfl
      · rw [hrel] at hs
        rw [okS_1 (by simpa using hs)]; rfl
    (refine ⟨fun g1 => ?_, fun g1 => ?_⟩ <;> rw [g1])
    · rw [notB_t] at g1
      ((repeat ((conv => whnf); first | refine brT ?_ | refine brF ?_)); conv => whnf)
      (refine ⟨fun g2 => ?_, fun g2 => ?_⟩ <;> rw [g2])
      · rw [notB_t] at g2
        obtain ⟨s1, s2⟩ := skip (b := true) (by unfold relB; rw [g1, g2]; rfl)
        ((repeat ((conv => whnf); first | refine brT ?_ | refine brF ?_)); conv => whnf)
        refine round_end (k + 1) ⟨hlt, s1⟩ (by omega) ⟨?_, ⟨rfl, trivial⟩, rfl, rfl⟩
        rw [← hLk] at e
        (repeat ((conv => whnf); first | refine ⟨e, ?_⟩ | refine ⟨s2, ?_⟩ | refine ⟨rfl, ?_⟩))
        trivial
      rw [notB_f] at g2
      have hrel : relB r.sex L[k] = true := by unfold relB; rw [g2, Bool.or_true]
      ((repeat ((conv => whnf); first | refine brT ?_ | refine brF ?_)); conv => whnf)
      refine ⟨_, isType_spec L[k] r.fr, ?_⟩
      ((repeat ((conv => whnf); first | refine brT ?_ | refine brF ?_)); conv => whnf)
      (refine ⟨fun g3 => ?_, fun g3 => ?_⟩ <;> rw [g3])
      · rw [notB_t] at g3
        obtain ⟨s1, s2⟩ := skip (b := true) (by rw [g3, Bool.and_false])
        ((repeat ((conv => whnf); first | refine brT ?_ | refine brF ?_)); conv => whnf)
        refine round_end (k + 1) ⟨hlt, s1⟩ (by omega) ⟨?_, ⟨rfl, trivial⟩, rfl, rfl⟩
        rw [← hLk] at e
        (repeat ((conv => whnf); first | refine ⟨e, ?_⟩ | refine ⟨s2, ?_⟩ | refine ⟨rfl, ?_⟩))
        trivial
      rw [notB_f] at g3
      ((repeat ((conv => whnf); first | refine brT ?_ | refine brF ?_)); conv => whnf)
      refine ⟨true, by kernel_rfl, ?_⟩
      ((repeat ((conv => whnf); first | refine brT ?_ | refine brF ?_)); conv => whnf)
      refine ⟨_, isType_spec L[k] r.to, ?_⟩
      ((repeat ((conv => whnf); first | refine brT ?_ | refine brF ?_)); conv => whnf)
      (refine ⟨fun g4 => ?_, fun g4 => ?_⟩ <;> rw [g4])
      · rw [notB_t] at g4
        ((repeat ((conv => whnf); first | refine brT ?_ | refine brF ?_)); conv => whnf)
        exact fin (by rw [all_no hlt2 (f := fun s => !relB r.sex s || okS r.fr r.to s) (by simp [hrel, okS_2 g3 g4])]; rfl)
      rw [notB_f] at g4
      ((repeat ((conv => whnf); first | refine brT ?_ | refine brF ?_)); conv => whnf)
      refine ⟨_, l3Last_spec L[k] r.to, ?_⟩
      ((repeat ((conv => whnf); first | refine brT ?_ | refine brF ?_)); conv => whnf)
      refine ⟨_, l3Last_spec L[k] r.fr, ?_⟩
      ((repeat ((conv => whnf); first | refine brT ?_ | refine brF ?_)); conv => whnf)
      have hs : sexR L[k] r.fr = lastT L[k] r.fr ∧ sexR L[k] r.to = lastT L[k] r.to := by unfold sexR; rw [g3, g4]; exact ⟨rfl, rfl⟩
      (refine ⟨fun g5 => ?_, fun g5 => ?_⟩ <;> rw [g5])
      · rw [notB_t, eqI_comm, ← hs.1, ← hs.2] at g5
        ((repeat ((conv => whnf); first | refine brT ?_ | refine brF ?_)); conv => whnf)
        exact fin (by rw [all_no hlt2 (f := fun s => !relB r.sex s || okS r.fr r.to s) (by simp [hrel, okS_3 g3 g4 g5])]; rfl)
      rw [notB_f, eqI_comm, ← hs.1, ← hs.2] at g5
      ((repeat ((conv => whnf); first | refine brT ?_ | refine brF ?_)); conv => whnf)
      refine round_end (k + 1) ⟨hlt, all_take_succ hlt2 hz (by simp [okS_3 g3 g4 g5])⟩ (by omega) ⟨?_, ⟨rfl, trivial⟩, rfl, rfl⟩
      have e2 : LV.bool true = LV.bool ((L.take (k + 1)).any fun s => relB r.sex s && typB s r.fr) := by rw [any_take_succ hlt2, hrel, g3]; simp
      rw [← hLk] at e
      (repeat ((conv => whnf); first | refine ⟨e, ?_⟩ | refine ⟨e2, ?_⟩ | refine ⟨rfl, ?_⟩))
      trivial
    · rw [notB_f] at g1
      have hrel : relB r.sex L[k] = true := by unfold relB; rw [g1]; rfl
      ((repeat ((conv => whnf); first | refine brT ?_ | refine brF ?_)); conv => whnf)
      refine ⟨_, isType_spec L[k] r.fr, ?_⟩
      ((repeat ((conv => whnf); first | refine brT ?_ | refine brF ?_)); conv => whnf)
      (refine ⟨fun g3 => ?_, fun g3 => ?_⟩ <;> rw [g3])
      · rw [notB_t] at g3
        obtain ⟨s1, s2⟩ := skip (b := true) (by rw [g3, Bool.and_false])
        ((repeat ((conv => whnf); first | refine brT ?_ | refine brF ?_)); conv => whnf)
        refine round_end (k + 1) ⟨hlt, s1⟩ (by omega) ⟨?_, ⟨rfl, trivial⟩, rfl, rfl⟩
        rw [← hLk] at e
        (repeat ((conv => whnf); first | refine ⟨e, ?_⟩ | refine ⟨s2, ?_⟩ | refine ⟨rfl, ?_⟩))
        trivial
      rw [notB_f] at g3
      ((repeat ((conv => whnf); first | refine brT ?_ | refine brF ?_)); conv => whnf)
      refine ⟨true, by kernel_rfl, ?_⟩
      ((repeat ((conv => whnf); first | refine brT ?_ | refine brF ?_)); conv => whnf)
      refine ⟨_, isType_spec L[k] r.to, ?_⟩
      ((repeat ((conv => whnf); first | refine brT ?_ | refine brF ?_)); conv => whnf)
      (refine ⟨fun g4 => ?_, fun g4 => ?_⟩ <;> rw [g4])
      · rw [notB_t] at g4
        ((repeat ((conv => whnf); first | refine brT ?_ | refine brF ?_)); conv => whnf)
        exact fin (by rw [all_no hlt2 (f := fun s => !relB r.sex s || okS r.fr r.to s) (by simp [hrel, okS_2 g3 g4])]; rfl)
      rw [notB_f] at g4
      ((repeat ((conv => whnf); first | refine brT ?_ | refine brF ?_)); conv => whnf)
      refine ⟨_, l3Last_spec L[k] r.to, ?_⟩
      ((repeat ((conv => whnf); first | refine brT ?_ | refine brF ?_)); conv => whnf)
      refine ⟨_, l3Last_spec L[k] r.fr, ?_⟩
      ((repeat ((conv => whnf); first | refine brT ?_ | refine brF ?_)); conv => whnf)
      have hs : sexR L[k] r.fr = lastT L[k] r.fr ∧ sexR L[k] r.to = lastT L[k] r.to := by unfold sexR; rw [g3, g4]; exact ⟨rfl, rfl⟩
      (refine ⟨fun g5 => ?_, fun g5 => ?_⟩ <;> rw [g5])
      · rw [notB_t, eqI_comm, ← hs.1, ← hs.2] at g5
        ((repeat ((conv => whnf); first | refine brT ?_ | refine brF ?_)); conv => whnf)
        exact fin (by rw [all_no hlt2 (f := fun s => !relB r.sex s || okS r.fr r.to s) (by simp [hrel, okS_3 g3 g4 g5])]; rfl)
      rw [notB_f, eqI_comm, ← hs.1, ← hs.2] at g5
      ((repeat ((conv => whnf); first | refine brT ?_ | refine brF ?_)); conv => whnf)
      refine round_end (k + 1) ⟨hlt, all_take_succ hlt2 hz (by simp [okS_3 g3 g4 g5])⟩ (by omega) ⟨?_, ⟨rfl, trivial⟩, rfl, rfl⟩
      have e2 : LV.bool true = LV.bool ((L.take (k + 1)).any fun s => relB r.sex s && typB s r.fr) := by rw [any_take_succ hlt2, hrel, g3]; simp
      rw [← hLk] at e
      (repeat ((conv => whnf); first | refine ⟨e, ?_⟩ | refine ⟨e2, ?_⟩ | refine ⟨rfl, ?_⟩))
      trivial
  · have h7 : k = 2 := by rw [leI_f] at h6; omega
    subst h7
    ((repeat ((conv => whnf); first | refine brT ?_ | refine brF ?_)); conv => whnf)
    refine fin ?_
    rw [List.take_of_length_le (by omega)] at hz ⊢
    rw [hz, Bool.true_and]
end Go.Proofs.Ytpfipmjmblgjfaa

namespace Go.Proofs.Ytpfipmjmblgjfaa
open Go.Lg
set_option maxHeartbeats 1600000
set_option maxRecDepth 10000
set_option linter.unusedVariables false
set_option linter.unusedSimpArgs false

abbrev shRule : Sh := .st [.str, .int .i64, .int .i64, .sl (.st [.int .i64, .int .i64]), .sl (.st [.int .i64, .int .i64])]
abbrev shRules : Sh := .sl shRule
theorem rule_of_sh {x : LV} (h : hasSh shRule x) : ∃ r : Rul, x = r.lv ∧ r.OK := by
  simp only [hasSh] at h
  obtain ⟨xs, rfl, h⟩ := h
  match xs, h with
  | [a, b, c, d, e], h =>
    simp only [hasShs, hasSh] at h
    obtain ⟨⟨s, rfl, hs⟩, ⟨n, rfl⟩, ⟨m, rfl⟩, ⟨ys, rfl, hl, hy⟩, ⟨zs, rfl, hl2, hz⟩, _⟩ := h
    obtain ⟨ps, rfl⟩ := prs_of ys fun y hy' => by simp only [hasSh]; exact hy y hy'
    obtain ⟨qs, rfl⟩ := prs_of zs fun y hy' => by simp only [hasSh]; exact hz y hy'
    exact ⟨⟨s, n, m, ps, qs⟩, rfl, hs, by simpa using hl, by simpa using hl2⟩
  | [], h => simp [hasShs] at h
  | [_], h => simp [hasShs] at h
  | [_, _], h => simp [hasShs] at h
  | [_, _, _], h => simp [hasShs] at h
  | [_, _, _, _], h => simp [hasShs] at h
  | _ :: _ :: _ :: _ :: _ :: _ :: _, h => simp [hasShs] at h
theorem ruls_of : ∀ (xs : List LV), (∀ x ∈ xs, hasSh shRule x) → ∃ rs : List Rul, xs = rs.map Rul.lv ∧ ∀ r ∈ rs, r.OK
  | [], _ => ⟨[], rfl, by simp⟩
  | x :: xs, h => by
    obtain ⟨r, rfl, hr⟩ := rule_of_sh (h x (by simp))
    obtain ⟨rs, rfl, hrs⟩ := ruls_of xs fun y hy => h y (by simp [hy])
    exact ⟨r :: rs, rfl, List.forall_mem_cons.2 ⟨hr, hrs⟩⟩
theorem rules_of_sh {x : LV} (h : hasSh shRules x) : ∃ rs : List Rul, x = .sl (rs.map Rul.lv) ∧ rs.length ≤ Go.maxLen ∧ ∀ r ∈ rs, r.OK := by
  simp only [hasSh] at h
  obtain ⟨xs, rfl, hl, h⟩ := h
  obtain ⟨rs, rfl, hrs⟩ := ruls_of xs fun x hx => by simp only [hasSh]; exact h x hx
  exact ⟨rs, rfl, by simpa using hl, hrs⟩
/-- Its parts are short. -/
def Rul.B (r : Rul) : Prop := 16 * r.fr.length ≤ 281474976710656 ∧ 16 * r.to.length ≤ 281474976710656 ∧ r.fr.length ≤ 1048576 ∧ r.to.length ≤ 1048576
theorem szR_B {l : Int} {r : Rul} (hr : r.OK) (h0 : 0 ≤ l) (h1 : l ≤ 1048576) (h : ltI (szR l r) 0 = false) : r.B ∧ 0 ≤ szR l r ∧ szR l r ≤ l := by
  rw [ltI_f] at h
  obtain ⟨k1, k2, k3, k4, k5, k6, k7⟩ := szR_ok hr h0 h1 h
  exact ⟨⟨k3, k4, k5, k6⟩, h, by omega⟩

def szRu : Int → List Rul → Int
  | l, [] => l
  | l, r :: rs => match ltI (szR l r) 0 with | true => -1 | false => szRu (szR l r) rs
def szRuS (l : Int) (rs : List Rul) : Int := match ltI (IntKind.i64.wrap (l - (rs.length : Int))) 0 with | true => -1 | false => szRu (IntKind.i64.wrap (l - (rs.length : Int))) rs
theorem szRuleS_spec (rs : List Rul) (l : Int) : FSpec env.P 61 [.sl (rs.map Rul.lv), .int .i64 l] (.int .i64 (szRuS l rs)) := by
  refine FSpec_of_code env_ok (fn := Try.f61) Try.func61 rfl Try.call61 _ _ ?_
  ((repeat ((conv => whnf); first | refine brT ?_ | refine brF ?_)); conv => whnf)
  intro hm
  rw [List.length_map] at hm ⊢
  ((repeat ((conv => whnf); first | refine brT ?_ | refine brF ?_)); conv => whnf)
  (refine ⟨fun h => ?_, fun h => ?_⟩ <;> rw [h])
  · ((repeat ((conv => whnf); first | refine brT ?_ | refine brF ?_)); conv => whnf); exact finI (by unfold szRuS; rw [h])
  have hs : szRuS l rs = szRu (IntKind.i64.wrap (l - (rs.length : Int))) rs := by unfold szRuS; rw [h]
  ((repeat ((conv => whnf); first | refine brT ?_ | refine brF ?_)); conv => whnf)
  refine loop_rule (α := Nat × Int) (fun x => [(5, .int .i64 (x.1 : Int)), (1, .int .i64 x.2)]) (fun _ => []) (fun x => rs.length - x.1) (fun x => x.1 ≤ rs.length ∧ szRu x.2 (rs.drop x.1) = szRuS l rs) (0, IntKind.i64.wrap (l - (rs.length : Int))) ⟨Nat.zero_le _, hs.symm⟩ ?_ ?_
  · refine ⟨?_, trivial, rfl, rfl⟩
    ((repeat ((conv => whnf); refine ⟨rfl, ?_⟩)); trivial)
  rintro ⟨k, x⟩ ⟨hk, hz⟩
  simp only at hk hz
  ((repeat ((conv => whnf); first | refine brT ?_ | refine brF ?_)); conv => whnf)
  intro _
  rw [List.length_map]
  ((repeat ((conv => whnf); first | refine brT ?_ | refine brF ?_)); conv => whnf)
  (refine ⟨fun h1 => ?_, fun h1 => ?_⟩ <;> rw [h1])
  · have hlt : k < rs.length := by rw [ltI_t] at h1; omega
    rw [List.drop_eq_getElem_cons hlt] at hz
    simp only [szRu] at hz
    ((repeat ((conv => whnf); first | refine brT ?_ | refine brF ?_)); conv => whnf)
    refine ⟨k, rs[k].lv, rfl, by simp [hlt], rfl, ?_⟩
    ((repeat ((conv => whnf); first | refine brT ?_ | refine brF ?_)); conv => whnf)
    refine ⟨_, szRule_spec rs[k] x, ?_⟩
    ((repeat ((conv => whnf); first | refine brT ?_ | refine brF ?_)); conv => whnf)
    (refine ⟨fun h2 => ?_, fun h2 => ?_⟩ <;> rw [h2])
    · rw [h2] at hz
      ((repeat ((conv => whnf); first | refine brT ?_ | refine brF ?_)); conv => whnf); exact finI hz
    · rw [h2] at hz
      ((repeat ((conv => whnf); first | refine brT ?_ | refine brF ?_)); conv => whnf)
      refine round_end (k + 1, szR x rs[k]) ⟨hlt, hz⟩ (by simp only; omega) ⟨?_, trivial, rfl, rfl⟩
      have e := step_i hlt hm
      ((repeat ((conv => whnf); first | refine ⟨e, ?_⟩ | refine ⟨rfl, ?_⟩)); trivial)
  · have h4 : k = rs.length := by rw [ltI_f] at h1; omega
    subst h4
    ((repeat ((conv => whnf); first | refine brT ?_ | refine brF ?_)); conv => whnf)
    refine finI ?_
    rw [← hz]; simp [szRu]
theorem szRu_B : ∀ {rs : List Rul} {l : Int}, (∀ r ∈ rs, r.OK) → 0 ≤ l → l ≤ 1048576 → ltI (szRu l rs) 0 = false → ∀ r ∈ rs, r.B
  | [], _, _, _, _, _ => by simp
  | r :: rs, l, hr, h0, h1, h => by
    simp only [szRu] at h
    cases h2 : ltI (szR l r) 0 <;> rw [h2] at h <;> simp only at h
    · obtain ⟨k1, k2, k3⟩ := szR_B (hr r (by simp)) h0 h1 h2
      exact List.forall_mem_cons.2 ⟨k1, szRu_B (fun x hx => hr x (by simp [hx])) k2 (by omega) h⟩
    · rw [ltI_f] at h; omega
theorem szRuS_B {rs : List Rul} {l : Int} (hl : rs.length ≤ Go.maxLen) (hr : ∀ r ∈ rs, r.OK) (h0 : 0 ≤ l) (h1 : l ≤ 1048576) (h : ltI (szRuS l rs) 0 = false) : rs.length ≤ 1048576 ∧ ∀ r ∈ rs, r.B := by
  unfold Go.maxLen at hl
  have hw : IntKind.i64.wrap (l - (rs.length : Int)) = l - rs.length := wrap64 (by omega) (by omega)
  unfold szRuS at h
  rw [hw] at h
  cases h2 : ltI (l - (rs.length : Int)) 0 <;> rw [h2] at h <;> simp only at h
  · rw [ltI_f] at h2
    exact ⟨by omega, szRu_B hr h2 (by omega) h⟩
  · rw [ltI_f] at h; omega
def zRul : LV := .st [.str ⟨#[]⟩, .int .i64 0, .int .i64 0, .nil, .nil]
theorem toRuleS_h (rs : List Rul) (hl : rs.length ≤ 1048576) (hr : ∀ r ∈ rs, r.B) : HSpec env.P 63 [.sl (rs.map Rul.lv)] [] (.hs 0 (rs.map Rul.lv).length) [.arr 80 5 (rs.map Rul.lv)] := by
  refine HSpec_of_code (E := env.x [] 0) env_ok.x (fn := Try.f63) Try.func63 rfl Try.call63 _ _ _ _ ?_
  have hb : 80 * rs.length ≤ 281474976710656 := by omega
  have hl : rs.length ≤ Go.maxLen := by unfold Go.maxLen; omega
  ((repeat ((conv => whnf); first | refine brT ?_ | refine brF ?_)); conv => whnf)
  intro hp
  ((repeat ((conv => whnf); first | refine brT ?_ | refine brF ?_)); conv => whnf)
  refine ⟨rs.length, by simp, by simp, hb, hl, rfl, by decide, ?_⟩
  ((repeat ((conv => whnf); first | refine brT ?_ | refine brF ?_)); conv => whnf)
  refine loop_rule (α := Nat) (fun k => [(4, .int .i64 (k : Int))]) (fun k => [.arr 80 5 (fillLV Rul.lv zRul rs k)]) (fun k => rs.length - k) (fun k => k ≤ rs.length) 0 (Nat.zero_le _) ?_ ?_
  · refine ⟨?_, ⟨by simp [zRul, fillLV], trivial⟩, rfl, rfl⟩
    ((repeat ((conv => whnf); refine ⟨rfl, ?_⟩)); trivial)
  rintro k hk
  ((repeat ((conv => whnf); first | refine brT ?_ | refine brF ?_)); conv => whnf)
  intro _
  ((repeat ((conv => whnf); first | refine brT ?_ | refine brF ?_)); conv => whnf)
  (refine ⟨fun h1 => ?_, fun h1 => ?_⟩ <;> rw [h1])
  · have hlt : k < rs.length := by rw [ltI_t] at h1; simp at h1; omega
    have hrk := hr rs[k] (List.getElem_mem hlt)
    ((repeat ((conv => whnf); first | refine brT ?_ | refine brF ?_)); conv => whnf)
    refine ⟨k, rs[k].lv, rfl, by simp [hlt], rfl, ?_⟩
    ((repeat ((conv => whnf); first | refine brT ?_ | refine brF ?_)); conv => whnf)
    refine ⟨_, toRule_f rs[k] hrk.1 hrk.2.1, ?_⟩
    ((repeat ((conv => whnf); first | refine brT ?_ | refine brF ?_)); conv => whnf)
    refine ⟨(fill_len hk).symm, rfl, k, rfl, by rw [fill_len hk]; exact hlt, ?_⟩
    ((repeat ((conv => whnf); first | refine brT ?_ | refine brF ?_)); conv => whnf)
    refine ⟨(fill_len hk).symm, k, [], zRul, rfl, by simp [getP, fill_get hlt], rfl, rfl, rfl, fillLV Rul.lv zRul rs (k + 1), by rw [fill_get hlt]; exact fill_set hlt, ?_⟩
    ((repeat ((conv => whnf); first | refine brT ?_ | refine brF ?_)); conv => whnf)
    refine round_end (k + 1) hlt (by omega) ⟨?_, ⟨rfl, trivial⟩, rfl, rfl⟩
    have e := step_i hlt hl
    ((repeat ((conv => whnf); first | refine ⟨e, ?_⟩ | refine ⟨rfl, ?_⟩)); trivial)
  · have h4 : k = rs.length := by rw [ltI_f] at h1; simp at h1; omega
    subst h4
    ((repeat ((conv => whnf); first | refine brT ?_ | refine brF ?_)); conv => whnf)
    exact ⟨[.hs 0 rs.length], by simp [tupOf], rfl, .inl ⟨⟨rfl, trivial⟩, ⟨congrArg (Blk.arr 80 5) fill_all, trivial⟩, rfl, rfl⟩⟩
theorem toRuleS_f (rs : List Rul) (hl : rs.length ≤ 1048576) (hr : ∀ r ∈ rs, r.B) : FSpec env.P 63 [.sl (rs.map Rul.lv)] (.own 80 5 (rs.map Rul.lv)) :=
  FSpec_of_HSpec (toRuleS_h rs hl hr) (by simp only [exW]; exact ⟨rfl, rfl, rfl, rfl, by simp⟩)
theorem eqRuleS_spec (rs ss : List Rul) : FSpec env.P 66 [.sl (rs.map Rul.lv), .sl (ss.map Rul.lv)] (.bool (eqList Rul.eq rs ss)) := by
  refine FSpec_of_code env_ok (fn := Try.f66) Try.func66 rfl Try.call66 _ _ ?_
  ((repeat ((conv => whnf); first | refine brT ?_ | refine brF ?_)); conv => whnf)
  intro hp
  ((repeat ((conv => whnf); first | refine brT ?_ | refine brF ?_)); conv => whnf)
  intro hq
  ((repeat ((conv => whnf); first | refine brT ?_ | refine brF ?_)); conv => whnf)
  (refine ⟨fun h => ?_, fun h => ?_⟩ <;> rw [h])
  · ((repeat ((conv => whnf); first | refine brT ?_ | refine brF ?_)); conv => whnf)
    refine fin ?_
    rw [notB_t] at h
    rw [eqList_len (eqI_nolen h)]
  rw [notB_f] at h
  have hl := eqI_len h
  have hp' : rs.length ≤ Go.maxLen := by simpa using hp
  ((repeat ((conv => whnf); first | refine brT ?_ | refine brF ?_)); conv => whnf)
  refine loop_rule (α := Nat) (fun k => [(5, .int .i64 (k : Int))]) (fun _ => []) (fun k => rs.length - k) (fun k => k ≤ rs.length ∧ eqTo Rul.eq rs ss k) 0 ⟨Nat.zero_le _, fun _ _ _ h => absurd h (Nat.not_lt_zero _)⟩ ?_ ?_
  · refine ⟨?_, trivial, rfl, rfl⟩
    ((repeat ((conv => whnf); refine ⟨rfl, ?_⟩)); trivial)
  rintro k ⟨hk, he⟩
  ((repeat ((conv => whnf); first | refine brT ?_ | refine brF ?_)); conv => whnf)
  intro _
  ((repeat ((conv => whnf); first | refine brT ?_ | refine brF ?_)); conv => whnf)
  (refine ⟨fun h1 => ?_, fun h1 => ?_⟩ <;> rw [h1])
  · have hlt : k < rs.length := by rw [ltI_t] at h1; simp at h1; omega
    have hlt2 : k < ss.length := by omega
    ((repeat ((conv => whnf); first | refine brT ?_ | refine brF ?_)); conv => whnf)
    refine ⟨true, by kernel_rfl, ?_⟩
    ((repeat ((conv => whnf); first | refine brT ?_ | refine brF ?_)); conv => whnf)
    refine ⟨k, rs[k].lv, rfl, by simp [hlt], rfl, ?_⟩
    ((repeat ((conv => whnf); first | refine brT ?_ | refine brF ?_)); conv => whnf)
    refine ⟨k, ss[k].lv, rfl, by simp [hlt2], rfl, ?_⟩
    ((repeat ((conv => whnf); first | refine brT ?_ | refine brF ?_)); conv => whnf)
    refine ⟨_, eqRule_spec rs[k] ss[k], ?_⟩
    ((repeat ((conv => whnf); first | refine brT ?_ | refine brF ?_)); conv => whnf)
    (refine ⟨fun h3 => ?_, fun h3 => ?_⟩ <;> rw [h3])
    · rw [notB_t] at h3
      ((repeat ((conv => whnf); first | refine brT ?_ | refine brF ?_)); conv => whnf)
      refine fin ?_
      rw [eqList_no (k := k) (x := rs[k]) (y := ss[k]) (by simp [hlt]) (by simp [hlt2]) h3]
    · rw [notB_f] at h3
      ((repeat ((conv => whnf); first | refine brT ?_ | refine brF ?_)); conv => whnf)
      refine round_end (k + 1) ⟨hlt, he.succ (x := rs[k]) (y := ss[k]) (by simp [hlt]) (by simp [hlt2]) h3⟩ (by omega) ⟨?_, trivial, rfl, rfl⟩
      have e := step_i hlt hp'
      ((repeat ((conv => whnf); first | refine ⟨e, ?_⟩ | refine ⟨rfl, ?_⟩)); trivial)
  · have h3 : rs.length ≤ k := by rw [ltI_f] at h1; simp at h1; omega
    have h4 : k = rs.length := by omega
    subst h4
    ((repeat ((conv => whnf); first | refine brT ?_ | refine brF ?_)); conv => whnf)
    refine fin ?_
    rw [eqTo.all hl he]
theorem eqRuls_refl (rs : List Rul) : eqList Rul.eq rs rs = true := eqList_refl Rul.eq_refl rs
end Go.Proofs.Ytpfipmjmblgjfaa

namespace Go.Proofs.Ytpfipmjmblgjfaa
open Go.Lg
set_option maxHeartbeats 1600000
set_option maxRecDepth 10000
set_option linter.unusedVariables false
set_option linter.unusedSimpArgs false

/-- Where the first one lies for which a test holds. -/
def idxF {α : Type} (q : α → Bool) : Nat → List α → Int
  | _, [] => -1
  | i, p :: ps => match q p with | true => (i : Int) | false => idxF q (i + 1) ps
theorem idxF_ge {α : Type} (q : α → Bool) : ∀ (i : Nat) (ps : List α), leI 0 (idxF q i ps) = ps.any q
  | _, [] => by simp only [idxF, List.any_nil]; rw [leI_f]; omega
  | i, p :: ps => by
    simp only [idxF, List.any_cons]
    cases h : q p
    · simpa using idxF_ge q (i + 1) ps
    · simp only [Bool.true_or]; rw [leI_t]; omega
def sameName (r q : Rul) : Bool := eqS q.name r.name
theorem areRules1_spec (q r : Rul) : FSpec env.P 178 [q.lv, .ref r.lv] (.bool (sameName r q)) := by
  refine FSpec_of_code env_ok (fn := Try.f178) Try.func178 rfl Try.call178 _ _ ?_
  ((repeat ((conv => whnf); first | refine brT ?_ | refine brF ?_)); conv => whnf)
  exact fin rfl
theorem indexRul_spec (r : Rul) (qs : List Rul) : FSpec env.P 206 [.sl (qs.map Rul.lv), .clos 178 [.ref r.lv]] (.int .i64 (idxF (sameName r) 0 qs)) := by
  refine FSpec_of_code env_ok (fn := Try.f206) Try.func206 rfl Try.call206 _ _ ?_
  ((repeat ((conv => whnf); first | refine brT ?_ | refine brF ?_)); conv => whnf)
  intro hp
  have hp' : qs.length ≤ Go.maxLen := by simpa using hp
  ((repeat ((conv => whnf); first | refine brT ?_ | refine brF ?_)); conv => whnf)
  refine loop_rule (α := Nat) (fun k => [(8, .int .i64 (k : Int))]) (fun k => []) (fun k => qs.length - k) (fun k => k ≤ qs.length ∧ idxF (sameName r) k (qs.drop k) = idxF (sameName r) 0 qs) 0 ⟨Nat.zero_le _, rfl⟩ ?_ ?_
  · refine ⟨?_, trivial, rfl, rfl⟩
    ((repeat ((conv => whnf); refine ⟨rfl, ?_⟩)); trivial)
  rintro k ⟨hk, hf⟩
  ((repeat ((conv => whnf); first | refine brT ?_ | refine brF ?_)); conv => whnf)
  (refine ⟨fun h1 => ?_, fun h1 => ?_⟩ <;> rw [h1])
  · have hlt : k < qs.length := by rw [ltI_t] at h1; simp at h1; omega
    rw [List.drop_eq_getElem_cons hlt] at hf
    simp only [idxF] at hf
    ((repeat ((conv => whnf); first | refine brT ?_ | refine brF ?_)); conv => whnf)
    refine ⟨k, qs[k].lv, rfl, by simp [hlt], rfl, ?_⟩
    ((repeat ((conv => whnf); first | refine brT ?_ | refine brF ?_)); conv => whnf)
    refine ⟨_, areRules1_spec qs[k] r, ?_⟩
    ((repeat ((conv => whnf); first | refine brT ?_ | refine brF ?_)); conv => whnf)
    (refine ⟨fun h2 => ?_, fun h2 => ?_⟩ <;> rw [h2])
    · rw [h2] at hf
      ((repeat ((conv => whnf); first | refine brT ?_ | refine brF ?_)); conv => whnf)
      exact finI hf
    · rw [h2] at hf
      ((repeat ((conv => whnf); first | refine brT ?_ | refine brF ?_)); conv => whnf)
      refine round_end (k + 1) ⟨hlt, hf⟩ (by omega) ⟨?_, trivial, rfl, rfl⟩
      have e := step_i hlt hp'
      ((repeat ((conv => whnf); first | refine ⟨e, ?_⟩ | refine ⟨rfl, ?_⟩)); trivial)
  · have h3 : qs.length ≤ k := by rw [ltI_f] at h1; simp at h1; omega
    rw [List.drop_eq_nil_of_le h3] at hf
    ((repeat ((conv => whnf); first | refine brT ?_ | refine brF ?_)); conv => whnf)
    exact finI hf
theorem containsRul_spec (r : Rul) (qs : List Rul) : FSpec env.P 177 [.sl (qs.map Rul.lv), .clos 178 [.ref r.lv]] (.bool (qs.any (sameName r))) := by
  refine FSpec_of_code env_ok (fn := Try.f177) Try.func177 rfl Try.call177 _ _ ?_
  ((repeat ((conv => whnf); first | refine brT ?_ | refine brF ?_)); conv => whnf)
  refine ⟨_, indexRul_spec r qs, ?_⟩
  ((repeat ((conv => whnf); first | refine brT ?_ | refine brF ?_)); conv => whnf)
  exact fin (idxF_ge _ _ _)
def okAt (rs : List Rul) (i : Nat) : Bool := match rs[i]? with | some r => ruleB r && !((rs.take i).any (sameName r)) | none => true
def rulesB (rs : List Rul) : Bool := leI (rs.length : Int) 12 && (List.range rs.length).all (okAt rs)
theorem rulesB_no {rs : List Rul} {k : Nat} (hk : k < rs.length) (h : (ruleB rs[k] && !((rs.take k).any (sameName rs[k]))) = false) : rulesB rs = false := by
  unfold rulesB
  rw [show (List.range rs.length).all (okAt rs) = false from ?_, Bool.and_false]
  rw [List.all_eq_false]
  exact ⟨k, List.mem_range.2 hk, by simp only [okAt, List.getElem?_eq_getElem hk, h]; simp⟩
theorem rulesB_yes {rs : List Rul} (h : rs.length ≤ 12) (ha : ∀ i, i < rs.length → okAt rs i = true) : rulesB rs = true := by
  unfold rulesB
  rw [Bool.and_eq_true, leI_t, List.all_eq_true]
  exact ⟨by omega, fun i hi => ha i (List.mem_range.1 hi)⟩
theorem rulesB_long {rs : List Rul} (h : ltI 12 (rs.length : Int) = true) : rulesB rs = false := by
  unfold rulesB
  rw [show leI (rs.length : Int) 12 = false by rw [leI_f]; rw [ltI_t] at h; omega]; rfl
theorem areRules_impl (rs : List Rul) : FSpec env.P 133 [.sl (rs.map Rul.lv)] (.bool (rulesB rs)) := by
  refine FSpec_of_code env_ok (fn := Try.f133) Try.func133 rfl Try.call133 _ _ ?_
  ((repeat ((conv => whnf); first | refine brT ?_ | refine brF ?_)); conv => whnf)
  intro hm
  rw [List.length_map] at hm ⊢
  ((repeat ((conv => whnf); first | refine brT ?_ | refine brF ?_)); conv => whnf)
  (refine ⟨fun h => ?_, fun h => ?_⟩ <;> rw [h])
  · ((repeat ((conv => whnf); first | refine brT ?_ | refine brF ?_)); conv => whnf); exact fin (rulesB_long h).symm
  rw [ltI_f] at h
  ((repeat ((conv => whnf); first | refine brT ?_ | refine brF ?_)); conv => whnf)
  intro _
  rw [List.length_map]
  ((repeat ((conv => whnf); first | refine brT ?_ | refine brF ?_)); conv => whnf)
  refine loop_rule (α := Nat) (fun k => [(10, .int .i64 (k : Int))]) (fun _ => []) (fun k => rs.length - k) (fun k => k ≤ rs.length ∧ ∀ i, i < k → okAt rs i = true) 0 ⟨Nat.zero_le _, fun _ h => absurd h (Nat.not_lt_zero _)⟩ ?_ ?_
  · refine ⟨?_, trivial, rfl, rfl⟩
    ((repeat ((conv => whnf); refine ⟨rfl, ?_⟩)); trivial)
  rintro k ⟨hk, hz⟩
  ((repeat ((conv => whnf); first | refine brT ?_ | refine brF ?_)); conv => whnf)
  (refine ⟨fun h1 => ?_, fun h1 => ?_⟩ <;> rw [h1])
  · have hlt : k < rs.length := by rw [ltI_t] at h1; omega
    ((repeat ((conv => whnf); first | refine brT ?_ | refine brF ?_)); conv => whnf)
    refine ⟨k, rs[k].lv, rfl, by simp [hlt], rfl, ?_⟩
    ((repeat ((conv => whnf); first | refine brT ?_ | refine brF ?_)); conv => whnf)
    refine ⟨_, isRule_impl rs[k], ?_⟩
    ((repeat ((conv => whnf); first | refine brT ?_ | refine brF ?_)); conv => whnf)
    (refine ⟨fun h2 => ?_, fun h2 => ?_⟩ <;> rw [h2])
    · rw [notB_t] at h2
      ((repeat ((conv => whnf); first | refine brT ?_ | refine brF ?_)); conv => whnf)
      exact fin (rulesB_no hlt (by rw [h2]; rfl)).symm
    rw [notB_f] at h2
    ((repeat ((conv => whnf); first | refine brT ?_ | refine brF ?_)); conv => whnf)
    refine ⟨0, k, rfl, rfl, Nat.zero_le _, by simp; omega, by simp [Rul.lv, LV.size, LV.sizes], ?_⟩
    ((repeat ((conv => whnf); first | refine brT ?_ | refine brF ?_)); conv => whnf)
    refine ⟨_, by have h9 := containsRul_spec rs[k] (rs.take k); rw [List.map_take] at h9; exact h9, ?_⟩
    ((repeat ((conv => whnf); first | refine brT ?_ | refine brF ?_)); conv => whnf)
    (refine ⟨fun h3 => ?_, fun h3 => ?_⟩ <;> rw [h3])
    · ((repeat ((conv => whnf); first | refine brT ?_ | refine brF ?_)); conv => whnf)
      exact fin (rulesB_no hlt (by rw [h3, Bool.not_true, Bool.and_false])).symm
    ((repeat ((conv => whnf); first | refine brT ?_ | refine brF ?_)); conv => whnf)
    refine round_end (k + 1) ⟨hlt, fun i hi => ?_⟩ (by omega) ⟨?_, trivial, rfl, rfl⟩
    · by_cases e : i = k
      · subst e; simp only [okAt, List.getElem?_eq_getElem hlt, h2, h3]; rfl
      · exact hz i (by omega)
    have e := step_i hlt hm
    ((repeat ((conv => whnf); first | refine ⟨e, ?_⟩ | refine ⟨rfl, ?_⟩)); trivial)
  · have h4 : k = rs.length := by rw [ltI_f] at h1; omega
    subst h4
    ((repeat ((conv => whnf); first | refine brT ?_ | refine brF ?_)); conv => whnf)
    exact fin (rulesB_yes (by omega) hz).symm
theorem areRules_spec (rs : List Rul) : FSpec env.P 131 [.sl (rs.map Rul.lv)] (.bool (rulesB rs)) := by
  refine FSpec_of_code env_ok (fn := Try.f131) Try.func131 rfl Try.call131 _ _ ?_
  ((repeat ((conv => whnf); first | refine brT ?_ | refine brF ?_)); conv => whnf)
  intro hm
  rw [List.length_map] at hm ⊢
  ((repeat ((conv => whnf); first | refine brT ?_ | refine brF ?_)); conv => whnf)
  (refine ⟨fun h => ?_, fun h => ?_⟩ <;> rw [h])
  · ((repeat ((conv => whnf); first | refine brT ?_ | refine brF ?_)); conv => whnf); exact fin (rulesB_long h).symm
  rw [ltI_f] at h
  ((repeat ((conv => whnf); first | refine brT ?_ | refine brF ?_)); conv => whnf)
  intro _
  rw [List.length_map]
  ((repeat ((conv => whnf); first | refine brT ?_ | refine brF ?_)); conv => whnf)
  refine loop_rule (α := Nat) (fun k => [(11, .int .i64 (k : Int))]) (fun _ => []) (fun k => rs.length - k) (fun k => k ≤ rs.length ∧ ∀ i, i < k → okAt rs i = true) 0 ⟨Nat.zero_le _, fun _ h => absurd h (Nat.not_lt_zero _)⟩ ?_ ?_
  · refine ⟨?_, trivial, rfl, rfl⟩
    ((repeat ((conv => whnf); refine ⟨rfl, ?_⟩)); trivial)
  rintro k ⟨hk, hz⟩
  ((repeat ((conv => whnf); first | refine brT ?_ | refine brF ?_)); conv => whnf)
  (refine ⟨fun h1 => ?_, fun h1 => ?_⟩ <;> rw [h1])
  · have hlt : k < rs.length := by rw [ltI_t] at h1; omega
    ((repeat ((conv => whnf); first | refine brT ?_ | refine brF ?_)); conv => whnf)
    refine ⟨k, rs[k].lv, rfl, by simp [hlt], rfl, ?_⟩
    ((repeat ((conv => whnf); first | refine brT ?_ | refine brF ?_)); conv => whnf)
    generalize hKK : kk _ = KK
    refine loop_rule (α := Nat) (fun j => [(5, .int .i64 (j : Int))]) (fun _ => [.box rs[k].lv]) (fun j => k - j) (fun j => j ≤ k ∧ ∀ i (hi : i < j) (hi2 : i < rs.length), sameName rs[k] rs[i] = false) 0 ⟨Nat.zero_le _, fun _ h => absurd h (Nat.not_lt_zero _)⟩ ?_ ?_
    · refine ⟨?_, ⟨rfl, trivial⟩, rfl, rfl⟩
      ((repeat ((conv => whnf); refine ⟨rfl, ?_⟩)); trivial)
    rintro j ⟨hj, hn⟩
    ((repeat ((conv => whnf); first | refine brT ?_ | refine brF ?_)); conv => whnf)
    (refine ⟨fun h2 => ?_, fun h2 => ?_⟩ <;> rw [h2])
    · have hjk : j < k := by rw [ltI_t] at h2; omega
      have hj2 : j < rs.length := by omega
      ((repeat ((conv => whnf); first | refine brT ?_ | refine brF ?_)); conv => whnf)
      refine ⟨true, by kernel_rfl, ?_⟩
      ((repeat ((conv => whnf); first | refine brT ?_ | refine brF ?_)); conv => whnf)
      refine ⟨j, rs[j].lv, rfl, by simp [hj2], rfl, ?_⟩
      ((repeat ((conv => whnf); first | refine brT ?_ | refine brF ?_)); conv => whnf)
      (refine ⟨fun h3 => ?_, fun h3 => ?_⟩ <;> rw [h3])
      · ((repeat ((conv => whnf); first | refine brT ?_ | refine brF ?_)); conv => whnf)
        subst hKK
        have hany : (rs.take k).any (sameName rs[k]) = true := by
          rw [List.any_eq_true]
          exact ⟨rs[j], List.mem_take_iff_getElem.2 ⟨j, by omega, rfl⟩, h3⟩
        ((repeat ((conv => whnf); first | refine brT ?_ | refine brF ?_)); conv => whnf)
        exact fin (rulesB_no hlt (by rw [hany, Bool.not_true, Bool.and_false])).symm
      ((repeat ((conv => whnf); first | refine brT ?_ | refine brF ?_)); conv => whnf)
      refine round_end (j + 1) ⟨hjk, fun i hi hi2 => ?_⟩ (by omega) ⟨?_, ⟨rfl, trivial⟩, rfl, rfl⟩
      · by_cases e : i = j
        · subst e; exact h3
        · exact hn i (by omega) hi2
      have e := step_i hj2 hm
      ((repeat ((conv => whnf); first | refine ⟨e, ?_⟩ | refine ⟨rfl, ?_⟩)); trivial)
    · have h4 : j = k := by rw [ltI_f] at h2; omega
      subst h4
      have hany : (rs.take j).any (sameName rs[j]) = false := by
        rw [List.any_eq_false]
        intro x hx
        obtain ⟨i, hi, rfl⟩ := List.mem_take_iff_getElem.1 hx
        rw [hn i (by omega) (by omega)]; simp
      subst hKK
      ((repeat ((conv => whnf); first | refine brT ?_ | refine brF ?_)); conv => whnf)
      refine ⟨_, isRule_spec rs[j], ?_⟩
      ((repeat ((conv => whnf); first | refine brT ?_ | refine brF ?_)); conv => whnf)
      (refine ⟨fun h3 => ?_, fun h3 => ?_⟩ <;> rw [h3])
      · rw [notB_t] at h3
        ((repeat ((conv => whnf); first | refine brT ?_ | refine brF ?_)); conv => whnf)
        exact fin (rulesB_no hlt (by rw [h3]; rfl)).symm
      rw [notB_f] at h3
      ((repeat ((conv => whnf); first | refine brT ?_ | refine brF ?_)); conv => whnf)
      refine round_end (j + 1) ⟨hlt, fun i hi => ?_⟩ (by omega) ⟨?_, trivial, rfl, rfl⟩
      · by_cases e : i = j
        · subst e; simp only [okAt, List.getElem?_eq_getElem hlt, h3, hany]; rfl
        · exact hz i (by omega)
      have e := step_i hlt hm
      ((repeat ((conv => whnf); first | refine ⟨e, ?_⟩ | refine ⟨rfl, ?_⟩)); trivial)
  · have h4 : k = rs.length := by rw [ltI_f] at h1; omega
    subst h4
    ((repeat ((conv => whnf); first | refine brT ?_ | refine brF ?_)); conv => whnf)
    exact fin (rulesB_yes (by omega) hz).symm
end Go.Proofs.Ytpfipmjmblgjfaa
namespace Go.Proofs.Ytpfipmjmblgjfaa
open Go.Lg
set_option maxHeartbeats 1600000
set_option maxRecDepth 10000
set_option linter.unusedVariables false
set_option linter.unusedSimpArgs false

def likeB (s p : Pr) : Bool := eqI s.a p.a && (eqI p.b 0 || eqI s.b p.b)
theorem isStepLike_spec (s p : Pr) : FSpec env.P 229 [s.lv, p.lv] (.bool (likeB s p)) := by
  refine FSpec_of_code env_ok (fn := Try.f229) Try.func229 rfl Try.call229 _ _ ?_
  ((repeat' (((repeat ((conv => whnf); first | refine brT ?_ | refine brF ?_)); conv => whnf); (refine And.intro ?_ ?_ <;> (intro h; rw [h]; revert h; intro _)))); all_goals ((repeat ((conv => whnf); first | refine brT ?_ | refine brF ?_)); conv => whnf))
  all_goals (refine fin ?_; simp_all [likeB])
theorem sexBefore_spec (e : Int) (ss : List Pr) (n : Nat) (hn : n ≤ ss.length) (hl : ss.length ≤ Go.maxLen) : FSpec env.P 228 [typLV e ss, .int .i64 (n : Int)] (.int .i64 (sexAt e ss n)) := by
  refine FSpec_of_code env_ok (fn := Try.f228) Try.func228 rfl Try.call228 _ _ ?_
  ((repeat ((conv => whnf); first | refine brT ?_ | refine brF ?_)); conv => whnf)
  (refine ⟨fun h => ?_, fun h => ?_⟩ <;> rw [h])
  · have : n = 0 := by rw [eqI_t] at h; omega
    subst this
    ((repeat ((conv => whnf); first | refine brT ?_ | refine brF ?_)); conv => whnf); exact finI rfl
  · obtain ⟨m, rfl⟩ : ∃ m, n = m + 1 := Nat.exists_eq_succ_of_ne_zero (by rintro rfl; rw [eqI_f] at h; exact h rfl)
    unfold Go.maxLen at hl
    have hw : IntKind.i64.wrap (((m + 1 : Nat) : Int) - 1) = (m : Int) := by rw [wrap64 (by omega) (by omega)]; omega
    have hlt : m < ss.length := by omega
    ((repeat ((conv => whnf); first | refine brT ?_ | refine brF ?_)); conv => whnf)
    rw [hw]
    refine ⟨m, ss[m].lv, rfl, by simp [hlt], rfl, ?_⟩
    ((repeat ((conv => whnf); first | refine brT ?_ | refine brF ?_)); conv => whnf)
    refine ⟨_, sexOfStep_spec ss[m], ?_⟩
    ((repeat ((conv => whnf); first | refine brT ?_ | refine brF ?_)); conv => whnf)
    exact finI (by simp [sexAt, hlt])
def plT (p : Int) : Nat := match eqI p 1 with | true => 182 | false => match eqI p 2 with | true => 183 | false => 184
theorem placingOf_spec (p : Int) : FSpec env.P 150 [.int .i64 p] (.lit (.iface (plT p) (.agg #[]))) := by
  refine FSpec_of_code env_ok (fn := Try.f150) Try.func150 rfl Try.call150 _ _ ?_
  ((repeat' (((repeat ((conv => whnf); first | refine brT ?_ | refine brF ?_)); conv => whnf); (refine And.intro ?_ ?_ <;> (intro h; rw [h]; revert h; intro _)))); all_goals ((repeat ((conv => whnf); first | refine brT ?_ | refine brF ?_)); conv => whnf))
  all_goals (refine fin ?_; simp_all [plT])
theorem allows1_spec (a b c : Int) : FSpec env.P 254 [.st [], .int .i64 a, .int .i64 b, .int .i64 c] (.bool (eqI a 0)) := by
  refine FSpec_of_code env_ok (fn := Try.f254) Try.func254 rfl Try.call254 _ _ ?_
  ((repeat ((conv => whnf); first | refine brT ?_ | refine brF ?_)); conv => whnf)
  exact fin rfl
theorem allows2_spec (a b c : Int) : FSpec env.P 256 [.st [], .int .i64 a, .int .i64 b, .int .i64 c] (.bool (eqI b c)) := by
  refine FSpec_of_code env_ok (fn := Try.f256) Try.func256 rfl Try.call256 _ _ ?_
  ((repeat ((conv => whnf); first | refine brT ?_ | refine brF ?_)); conv => whnf)
  exact fin rfl
theorem allows0_spec (a b c : Int) : FSpec env.P 258 [.st [], .int .i64 a, .int .i64 b, .int .i64 c] (.bool true) := by
  refine FSpec_of_code env_ok (fn := Try.f258) Try.func258 rfl Try.call258 _ _ ?_
  ((repeat ((conv => whnf); first | refine brT ?_ | refine brF ?_)); conv => whnf)
  exact fin rfl
theorem withSex_spec (e : Int) (ss : List Pr) : FSpec env.P 135 [typLV e ss] (typLV (egoR e ss) ss) := by
  refine FSpec_of_code env_ok (fn := Try.f135) Try.func135 rfl Try.call135 _ _ ?_
  ((repeat ((conv => whnf); first | refine brT ?_ | refine brF ?_)); conv => whnf)
  refine ⟨true, by kernel_rfl, ?_⟩
  ((repeat ((conv => whnf); first | refine brT ?_ | refine brF ?_)); conv => whnf)
  refine ⟨_, egoOfType_impl e ss, ?_⟩
  ((repeat ((conv => whnf); first | refine brT ?_ | refine brF ?_)); conv => whnf)
  exact ⟨_, rfl, rfl, rfl, rfl, rfl, by simp [exsW, exW]⟩
def likeL : List Pr → List Pr → Bool
  | [], _ => true
  | p :: ps, s :: ss => likeB s p && likeL ps ss
  | _ :: _, [] => false
def plB (p a b n : Int) : Bool := match eqI p 1 with | true => eqI a 0 | false => match eqI p 2 with | true => eqI b n | false => true
def fitsB (r : Rul) (e : Int) (ss : List Pr) (i : Int) : Bool :=
  (leI 0 i && leI i ((ss.length : Int) - r.fr.length)) && ((eqI r.sex 0 || eqI r.sex (sexAt e ss i.toNat)) && (likeL r.fr (ss.drop i.toNat) && plB r.place i (i + r.fr.length) ss.length))
theorem likeL_no : ∀ {ps ss : List Pr} {k : Nat} (hk : k < ps.length) (hs : k < ss.length), likeB ss[k] ps[k] = false → likeL ps ss = false
  | p :: ps, s :: ss, 0, _, _, h => by simp only [likeL]; rw [show likeB s p = false from h]; rfl
  | p :: ps, s :: ss, k + 1, hk, hs, h => by simp only [likeL]; rw [likeL_no (k := k) (by simpa using hk) (by simpa using hs) h]; simp
  | [], _, k, hk, _, _ => by simp at hk
  | _ :: _, [], k, _, hs, _ => by simp at hs
theorem likeL_yes : ∀ {ps ss : List Pr}, ps.length ≤ ss.length → (∀ k (hk : k < ps.length) (hs : k < ss.length), likeB ss[k] ps[k] = true) → likeL ps ss = true
  | [], _, _, _ => by simp only [likeL]
  | p :: ps, s :: ss, hl, h => by
    simp only [likeL, Bool.and_eq_true]
    exact ⟨h 0 (by simp) (by simp), likeL_yes (by simpa using hl) fun k hk hs => h (k + 1) (by simpa using hk) (by simpa using hs)⟩
  | _ :: _, [], hl, _ => by simp at hl
theorem fits_impl (r : Rul) (e : Int) (ss : List Pr) (i : Int) : FSpec env.P 208 [.ref r.lv, typLV e ss, .int .i64 i] (.bool (fitsB r e ss i)) := by
  refine FSpec_of_code env_ok (fn := Try.f208) Try.func208 rfl Try.call208 _ _ ?_
  ((repeat ((conv => whnf); first | refine brT ?_ | refine brF ?_)); conv => whnf)
  refine ⟨true, by kernel_rfl, ?_⟩
  ((repeat ((conv => whnf); first | refine brT ?_ | refine brF ?_)); conv => whnf)
  (refine ⟨fun h1 => ?_, fun h1 => ?_⟩ <;> rw [h1])
  · ((repeat ((conv => whnf); first | refine brT ?_ | refine brF ?_)); conv => whnf)
    exact fin (by unfold fitsB; rw [show leI 0 i = false by rw [leI_f]; rw [ltI_t] at h1; omega]; rfl)
  rw [ltI_f] at h1
  ((repeat ((conv => whnf); first | refine brT ?_ | refine brF ?_)); conv => whnf)
  intro hs
  rw [List.length_map] at hs ⊢
  ((repeat ((conv => whnf); first | refine brT ?_ | refine brF ?_)); conv => whnf)
  intro hf
  rw [List.length_map] at hf ⊢
  have hs' := hs
  have hf' := hf
  unfold Go.maxLen at hs hf
  ((repeat ((conv => whnf); first | refine brT ?_ | refine brF ?_)); conv => whnf)
  rw [show IntKind.i64.wrap ((ss.length : Int) - (r.fr.length : Int)) = (ss.length : Int) - r.fr.length from wrap64 (by omega) (by omega)]
  (refine ⟨fun h2 => ?_, fun h2 => ?_⟩ <;> rw [h2])
  · ((repeat ((conv => whnf); first | refine brT ?_ | refine brF ?_)); conv => whnf)
    exact fin (by unfold fitsB; rw [show leI i ((ss.length : Int) - r.fr.length) = false by rw [leI_f]; rw [ltI_t] at h2; omega, Bool.and_false]; rfl)
  rw [ltI_f] at h2
  obtain ⟨n, rfl⟩ : ∃ n : Nat, i = (n : Int) := ⟨i.toNat, by omega⟩
  have h12 : (leI 0 (n : Int) && leI (n : Int) ((ss.length : Int) - r.fr.length)) = true := by rw [Bool.and_eq_true, leI_t, leI_t]; omega
  have hfit : fitsB r e ss (n : Int) = ((eqI r.sex 0 || eqI r.sex (sexAt e ss n)) && (likeL r.fr (ss.drop n) && plB r.place n (n + r.fr.length) ss.length)) := by
    unfold fitsB; rw [h12, Bool.true_and, Int.toNat_natCast]
  rw [hfit]
  have hnl : n ≤ ss.length := by omega
  have hend : IntKind.i64.wrap ((n : Int) + (r.fr.length : Int)) = (n : Int) + r.fr.length := wrap64 (by omega) (by omega)
  ((repeat ((conv => whnf); first | refine brT ?_ | refine brF ?_)); conv => whnf)
  refine ⟨true, by kernel_rfl, ?_⟩
  ((repeat ((conv => whnf); first | refine brT ?_ | refine brF ?_)); conv => whnf)
  (refine ⟨fun g1 => ?_, fun g1 => ?_⟩ <;> rw [g1])
  · rw [notB_t] at g1
    ((repeat ((conv => whnf); first | refine brT ?_ | refine brF ?_)); conv => whnf)
    refine ⟨_, sexBefore_spec e ss n hnl hs', ?_⟩
    ((repeat ((conv => whnf); first | refine brT ?_ | refine brF ?_)); conv => whnf)
    (refine ⟨fun g2 => ?_, fun g2 => ?_⟩ <;> rw [g2])
    · rw [notB_t] at g2
      ((repeat ((conv => whnf); first | refine brT ?_ | refine brF ?_)); conv => whnf)
      exact fin (by rw [g1, g2]; rfl)
    rw [notB_f] at g2
    rw [show (eqI r.sex 0 || eqI r.sex (sexAt e ss n)) = true by rw [g2, Bool.or_true], Bool.true_and]
    ((repeat ((conv => whnf); first | refine brT ?_ | refine brF ?_)); conv => whnf)
    intro _
    rw [List.length_map]
    ((repeat ((conv => whnf); first | refine brT ?_ | refine brF ?_)); conv => whnf)
    refine loop_rule (α := Nat) (fun k => [(44, .int .i64 (k : Int))]) (fun _ => [.box (typLV e ss)]) (fun k => r.fr.length - k) (fun k => k ≤ r.fr.length ∧ ∀ j (hj : j < k) (h3 : n + j < ss.length) (h4 : j < r.fr.length), likeB ss[n + j] r.fr[j] = true) 0 ⟨Nat.zero_le _, fun _ h => absurd h (Nat.not_lt_zero _)⟩ ?_ ?_
    · refine ⟨?_, ⟨rfl, trivial⟩, rfl, rfl⟩
      ((repeat ((conv => whnf); refine ⟨rfl, ?_⟩)); trivial)
    rintro k ⟨hk, hz⟩
    ((repeat ((conv => whnf); first | refine brT ?_ | refine brF ?_)); conv => whnf)
    (refine ⟨fun h4 => ?_, fun h4 => ?_⟩ <;> rw [h4])
    · have hlt : k < r.fr.length := by rw [ltI_t] at h4; omega
      have hlt2 : n + k < ss.length := by omega
      ((repeat ((conv => whnf); first | refine brT ?_ | refine brF ?_)); conv => whnf)
      refine ⟨k, r.fr[k].lv, rfl, by simp [hlt], rfl, ?_⟩
      ((repeat ((conv => whnf); first | refine brT ?_ | refine brF ?_)); conv => whnf)
      refine ⟨true, by kernel_rfl, ?_⟩
      ((repeat ((conv => whnf); first | refine brT ?_ | refine brF ?_)); conv => whnf)
      rw [show IntKind.i64.wrap ((n : Int) + (k : Int)) = ((n + k : Nat) : Int) by rw [wrap64 (by omega) (by omega)]; omega]
      refine ⟨n + k, ss[n + k].lv, rfl, by simp [hlt2], rfl, ?_⟩
      ((repeat ((conv => whnf); first | refine brT ?_ | refine brF ?_)); conv => whnf)
      refine ⟨_, isStepLike_spec ss[n + k] r.fr[k], ?_⟩
      ((repeat ((conv => whnf); first | refine brT ?_ | refine brF ?_)); conv => whnf)
      (refine ⟨fun h5 => ?_, fun h5 => ?_⟩ <;> rw [h5])
      · rw [notB_t] at h5
        ((repeat ((conv => whnf); first | refine brT ?_ | refine brF ?_)); conv => whnf)
        refine fin ?_
        rw [likeL_no (k := k) (ss := ss.drop n) hlt (by simp; omega) (by simpa using h5)]; simp
      rw [notB_f] at h5
      ((repeat ((conv => whnf); first | refine brT ?_ | refine brF ?_)); conv => whnf)
      refine round_end (k + 1) ⟨hlt, fun j hj h6 h7 => ?_⟩ (by omega) ⟨?_, ⟨rfl, trivial⟩, rfl, rfl⟩
      · by_cases ej : j = k
        · subst ej; exact h5
        · exact hz j (by omega) h6 h7
      have e := step_i hlt hf'
      ((repeat ((conv => whnf); first | refine ⟨e, ?_⟩ | refine ⟨rfl, ?_⟩)); trivial)
    have h5 : k = r.fr.length := by rw [ltI_f] at h4; omega
    subst h5
    have hlike : likeL r.fr (ss.drop n) = true := likeL_yes (by simp; omega) fun j hj hs3 => by
      have := hz j hj (by simp at hs3; omega) hj
      simpa using this
    rw [hlike, Bool.true_and]
    ((repeat ((conv => whnf); first | refine brT ?_ | refine brF ?_)); conv => whnf)
    refine ⟨true, by kernel_rfl, ?_⟩
    ((repeat ((conv => whnf); first | refine brT ?_ | refine brF ?_)); conv => whnf)
    refine ⟨_, placingOf_spec r.place, ?_⟩
    have hpl : (eqI r.place 1 = true) ∨ (eqI r.place 1 = false ∧ eqI r.place 2 = true) ∨ (eqI r.place 1 = false ∧ eqI r.place 2 = false) := by
      cases eqI r.place 1 <;> cases eqI r.place 2 <;> simp
    rcases hpl with p1 | ⟨p1, p2⟩ | ⟨p1, p2⟩
    · rw [show plT r.place = 182 by unfold plT; rw [p1], show plB r.place n (n + r.fr.length) ss.length = eqI n 0 by unfold plB; rw [p1]]
      ((repeat ((conv => whnf); first | refine brT ?_ | refine brF ?_)); conv => whnf)
      intro _
      ((repeat ((conv => whnf); first | refine brT ?_ | refine brF ?_)); conv => whnf)
      intro _
      ((repeat ((conv => whnf); first | refine brT ?_ | refine brF ?_)); conv => whnf)
      refine ⟨0, _, rfl, ?_⟩
      ((repeat ((conv => whnf); first | refine brT ?_ | refine brF ?_)); conv => whnf)
      refine ⟨0, _, .st [], rfl, rfl, rfl, ?_⟩
      ((repeat ((conv => whnf); first | refine brT ?_ | refine brF ?_)); conv => whnf)
      refine ⟨_, allows1_spec _ _ _, ?_⟩
      ((repeat ((conv => whnf); first | refine brT ?_ | refine brF ?_)); conv => whnf)
      exact fin rfl
    · rw [show plT r.place = 183 by unfold plT; rw [p1, p2], show plB r.place n (n + r.fr.length) ss.length = eqI (n + r.fr.length) ss.length by unfold plB; rw [p1, p2]]
      ((repeat ((conv => whnf); first | refine brT ?_ | refine brF ?_)); conv => whnf)
      intro _
      ((repeat ((conv => whnf); first | refine brT ?_ | refine brF ?_)); conv => whnf)
      intro _
      ((repeat ((conv => whnf); first | refine brT ?_ | refine brF ?_)); conv => whnf)
      refine ⟨2, _, rfl, ?_⟩
      ((repeat ((conv => whnf); first | refine brT ?_ | refine brF ?_)); conv => whnf)
      refine ⟨2, _, .st [], rfl, rfl, rfl, ?_⟩
      ((repeat ((conv => whnf); first | refine brT ?_ | refine brF ?_)); conv => whnf)
      refine ⟨_, allows2_spec _ _ _, ?_⟩
      ((repeat ((conv => whnf); first | refine brT ?_ | refine brF ?_)); conv => whnf)
      exact fin (by rw [List.length_map, List.length_map, hend])
    · rw [show plT r.place = 184 by unfold plT; rw [p1, p2], show plB r.place n (n + r.fr.length) ss.length = true by unfold plB; rw [p1, p2]]
      ((repeat ((conv => whnf); first | refine brT ?_ | refine brF ?_)); conv => whnf)
      intro _
      ((repeat ((conv => whnf); first | refine brT ?_ | refine brF ?_)); conv => whnf)
      intro _
      ((repeat ((conv => whnf); first | refine brT ?_ | refine brF ?_)); conv => whnf)
      refine ⟨4, _, rfl, ?_⟩
      ((repeat ((conv => whnf); first | refine brT ?_ | refine brF ?_)); conv => whnf)
      refine ⟨4, _, .st [], rfl, rfl, rfl, ?_⟩
      ((repeat ((conv => whnf); first | refine brT ?_ | refine brF ?_)); conv => whnf)
      refine ⟨_, allows0_spec _ _ _, ?_⟩
      ((repeat ((conv => whnf); first | refine brT ?_ | refine brF ?_)); conv => whnf)
      exact fin rfl
  · rw [notB_f] at g1
    rw [show (eqI r.sex 0 || eqI r.sex (sexAt e ss n)) = true by rw [g1]; rfl, Bool.true_and]
    ((repeat ((conv => whnf); first | refine brT ?_ | refine brF ?_)); conv => whnf)
    intro _
    rw [List.length_map]
    ((repeat ((conv => whnf); first | refine brT ?_ | refine brF ?_)); conv => whnf)
    refine loop_rule (α := Nat) (fun k => [(44, .int .i64 (k : Int))]) (fun _ => [.box (typLV e ss)]) (fun k => r.fr.length - k) (fun k => k ≤ r.fr.length ∧ ∀ j (hj : j < k) (h3 : n + j < ss.length) (h4 : j < r.fr.length), likeB ss[n + j] r.fr[j] = true) 0 ⟨Nat.zero_le _, fun _ h => absurd h (Nat.not_lt_zero _)⟩ ?_ ?_
    · refine ⟨?_, ⟨rfl, trivial⟩, rfl, rfl⟩
      ((repeat ((conv => whnf); refine ⟨rfl, ?_⟩)); trivial)
    rintro k ⟨hk, hz⟩
    ((repeat ((conv => whnf); first | refine brT ?_ | refine brF ?_)); conv => whnf)
    (refine ⟨fun h4 => ?_, fun h4 => ?_⟩ <;> rw [h4])
    · have hlt : k < r.fr.length := by rw [ltI_t] at h4; omega
      have hlt2 : n + k < ss.length := by omega
      ((repeat ((conv => whnf); first | refine brT ?_ | refine brF ?_)); conv => whnf)
      refine ⟨k, r.fr[k].lv, rfl, by simp [hlt], rfl, ?_⟩
      ((repeat ((conv => whnf); first | refine brT ?_ | refine brF ?_)); conv => whnf)
      refine ⟨true, by kernel_rfl, ?_⟩
      ((repeat ((conv => whnf); first | refine brT ?_ | refine brF ?_)); conv => whnf)
      rw [show IntKind.i64.wrap ((n : Int) + (k : Int)) = ((n + k : Nat) : Int) by rw [wrap64 (by omega) (by omega)]; omega]
      refine ⟨n + k, ss[n + k].lv, rfl, by simp [hlt2], rfl, ?_⟩
      ((repeat ((conv => whnf); first | refine brT ?_ | refine brF ?_)); conv => whnf)
      refine ⟨_, isStepLike_spec ss[n + k] r.fr[k], ?_⟩
      ((repeat ((conv => whnf); first | refine brT ?_ | refine brF ?_)); conv => whnf)
      (refine ⟨fun h5 => ?_, fun h5 => ?_⟩ <;> rw [h5])
      · rw [notB_t] at h5
        ((repeat ((conv => whnf); first | refine brT ?_ | refine brF ?_)); conv => whnf)
        refine fin ?_
        rw [likeL_no (k := k) (ss := ss.drop n) hlt (by simp; omega) (by simpa using h5)]; simp
      rw [notB_f] at h5
      ((repeat ((conv => whnf); first | refine brT ?_ | refine brF ?_)); conv => whnf)
      refine round_end (k + 1) ⟨hlt, fun j hj h6 h7 => ?_⟩ (by omega) ⟨?_, ⟨rfl, trivial⟩, rfl, rfl⟩
      · by_cases ej : j = k
        · subst ej; exact h5
        · exact hz j (by omega) h6 h7
      have e := step_i hlt hf'
      ((repeat ((conv => whnf); first | refine ⟨e, ?_⟩ | refine ⟨rfl, ?_⟩)); trivial)
    have h5 : k = r.fr.length := by rw [ltI_f] at h4; omega
    subst h5
    have hlike : likeL r.fr (ss.drop n) = true := likeL_yes (by simp; omega) fun j hj hs3 => by
      have := hz j hj (by simp at hs3; omega) hj
      simpa using this
    rw [hlike, Bool.true_and]
    ((repeat ((conv => whnf); first | refine brT ?_ | refine brF ?_)); conv => whnf)
    refine ⟨true, by kernel_rfl, ?_⟩
    ((repeat ((conv => whnf); first | refine brT ?_ | refine brF ?_)); conv => whnf)
    refine ⟨_, placingOf_spec r.place, ?_⟩
    have hpl : (eqI r.place 1 = true) ∨ (eqI r.place 1 = false ∧ eqI r.place 2 = true) ∨ (eqI r.place 1 = false ∧ eqI r.place 2 = false) := by
      cases eqI r.place 1 <;> cases eqI r.place 2 <;> simp
    rcases hpl with p1 | ⟨p1, p2⟩ | ⟨p1, p2⟩
    · rw [show plT r.place = 182 by unfold plT; rw [p1], show plB r.place n (n + r.fr.length) ss.length = eqI n 0 by unfold plB; rw [p1]]
      ((repeat ((conv => whnf); first | refine brT ?_ | refine brF ?_)); conv => whnf)
      intro _
      ((repeat ((conv => whnf); first | refine brT ?_ | refine brF ?_)); conv => whnf)
      intro _
      ((repeat ((conv => whnf); first | refine brT ?_ | refine brF ?_)); conv => whnf)
      refine ⟨0, _, rfl, ?_⟩
      ((repeat ((conv => whnf); first | refine brT ?_ | refine brF ?_)); conv => whnf)
      refine ⟨0, _, .st [], rfl, rfl, rfl, ?_⟩
      ((repeat ((conv => whnf); first | refine brT ?_ | refine brF ?_)); conv => whnf)
      refine ⟨_, allows1_spec _ _ _, ?_⟩
      ((repeat ((conv => whnf); first | refine brT ?_ | refine brF ?_)); conv => whnf)
      exact fin rfl
    · rw [show plT r.place = 183 by unfold plT; rw [p1, p2], show plB r.place n (n + r.fr.length) ss.length = eqI (n + r.fr.length) ss.length by unfold plB; rw [p1, p2]]
      ((repeat ((conv => whnf); first | refine brT ?_ | refine brF ?_)); conv => whnf)
      intro _
      ((repeat ((conv => whnf); first | refine brT ?_ | refine brF ?_)); conv => whnf)
      intro _
      ((repeat ((conv => whnf); first | refine brT ?_ | refine brF ?_)); conv => whnf)
      refine ⟨2, _, rfl, ?_⟩
      ((repeat ((conv => whnf); first | refine brT ?_ | refine brF ?_)); conv => whnf)
      refine ⟨2, _, .st [], rfl, rfl, rfl, ?_⟩
      ((repeat ((conv => whnf); first | refine brT ?_ | refine brF ?_)); conv => whnf)
      refine ⟨_, allows2_spec _ _ _, ?_⟩
      ((repeat ((conv => whnf); first | refine brT ?_ | refine brF ?_)); conv => whnf)
      exact fin (by rw [List.length_map, List.length_map, hend])
    · rw [show plT r.place = 184 by unfold plT; rw [p1, p2], show plB r.place n (n + r.fr.length) ss.length = true by unfold plB; rw [p1, p2]]
      ((repeat ((conv => whnf); first | refine brT ?_ | refine brF ?_)); conv => whnf)
      intro _
      ((repeat ((conv => whnf); first | refine brT ?_ | refine brF ?_)); conv => whnf)
      intro _
      ((repeat ((conv => whnf); first | refine brT ?_ | refine brF ?_)); conv => whnf)
      refine ⟨4, _, rfl, ?_⟩
      ((repeat ((conv => whnf); first | refine brT ?_ | refine brF ?_)); conv => whnf)
      refine ⟨4, _, .st [], rfl, rfl, rfl, ?_⟩
      ((repeat ((conv => whnf); first | refine brT ?_ | refine brF ?_)); conv => whnf)
      refine ⟨_, allows0_spec _ _ _, ?_⟩
      ((repeat ((conv => whnf); first | refine brT ?_ | refine brF ?_)); conv => whnf)
      exact fin rfl
end Go.Proofs.Ytpfipmjmblgjfaa
