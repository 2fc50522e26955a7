/- Contracts of functions of the program and of its model, told over readings. -/
import Derived.Test.YtfdjeflnjciloaaCPD
import Derived.Test.YtfdjeflnjciloaaCPC
namespace Go.Proofs.Ytfdjeflnjciloaa
open Go.Lg
set_option maxHeartbeats 1600000
set_option maxRecDepth 10000
set_option linter.unusedVariables false
set_option linter.unusedSimpArgs false

/-! ### Wrappers of the model -/
theorem spec_join (n : Int) (rows : List (List Int)) (m : Int) (rows' : List (List Int)) :
    HSpec env.P 87 [relLV n rows, relLV m rows'] [] (relHS (rsN (alike n rows m rows') rows) 0 ((relRows (rsN (alike n rows m rows') rows) (allP or (relP rows) (relP rows'))).map rowOw).length)
      [.tree 29 1 ((relRows (rsN (alike n rows m rows') rows) (allP or (relP rows) (relP rows'))).map rowOw)] := by
  refine HSpec_of_code (E := env.x [161] 0) env_ok.x (fn := Try.f87) Try.func87 rfl Try.call87 _ _ _ _ ?_
  ((repeat ((conv => whnf); first | refine brT ?_ | refine brF ?_)); conv => whnf)
  refine ⟨[], _, _, _, _, l2Mix_join n rows m rows', rfl, rfl, rfl, trivial, ?_⟩
  ((repeat ((conv => whnf); first | refine brT ?_ | refine brF ?_)); conv => whnf)
  refine ⟨[relHS (rsN (alike n rows m rows') rows) 0 ((relRows (rsN (alike n rows m rows') rows) (allP or (relP rows) (relP rows'))).map rowOw).length], rfl, rfl, .inr ⟨[.old 3], ⟨rfl, rfl, trivial⟩, ⟨rfl, rfl, trivial⟩, rfl⟩⟩
theorem spec_meet (n : Int) (rows : List (List Int)) (m : Int) (rows' : List (List Int)) :
    HSpec env.P 88 [relLV n rows, relLV m rows'] [] (relHS (rsN (alike n rows m rows') rows) 0 ((relRows (rsN (alike n rows m rows') rows) (allP and (relP rows) (relP rows'))).map rowOw).length)
      [.tree 29 1 ((relRows (rsN (alike n rows m rows') rows) (allP and (relP rows) (relP rows'))).map rowOw)] := by
  refine HSpec_of_code (E := env.x [161] 0) env_ok.x (fn := Try.f88) Try.func88 rfl Try.call88 _ _ _ _ ?_
  ((repeat ((conv => whnf); first | refine brT ?_ | refine brF ?_)); conv => whnf)
  refine ⟨[], _, _, _, _, l2Mix_meet n rows m rows', rfl, rfl, rfl, trivial, ?_⟩
  ((repeat ((conv => whnf); first | refine brT ?_ | refine brF ?_)); conv => whnf)
  refine ⟨[relHS (rsN (alike n rows m rows') rows) 0 ((relRows (rsN (alike n rows m rows') rows) (allP and (relP rows) (relP rows'))).map rowOw).length], rfl, rfl, .inr ⟨[.old 3], ⟨rfl, rfl, trivial⟩, ⟨rfl, rfl, trivial⟩, rfl⟩⟩
theorem spec_less (n : Int) (rows : List (List Int)) (m : Int) (rows' : List (List Int)) :
    HSpec env.P 89 [relLV n rows, relLV m rows'] [] (relHS (rsN (alike n rows m rows') rows) 0 ((relRows (rsN (alike n rows m rows') rows) (allP (fun x y => x && !y) (relP rows) (relP rows'))).map rowOw).length)
      [.tree 29 1 ((relRows (rsN (alike n rows m rows') rows) (allP (fun x y => x && !y) (relP rows) (relP rows'))).map rowOw)] := by
  refine HSpec_of_code (E := env.x [161] 0) env_ok.x (fn := Try.f89) Try.func89 rfl Try.call89 _ _ _ _ ?_
  ((repeat ((conv => whnf); first | refine brT ?_ | refine brF ?_)); conv => whnf)
  refine ⟨[], _, _, _, _, l2Mix_less n rows m rows', rfl, rfl, rfl, trivial, ?_⟩
  ((repeat ((conv => whnf); first | refine brT ?_ | refine brF ?_)); conv => whnf)
  refine ⟨[relHS (rsN (alike n rows m rows') rows) 0 ((relRows (rsN (alike n rows m rows') rows) (allP (fun x y => x && !y) (relP rows) (relP rows'))).map rowOw).length], rfl, rfl, .inr ⟨[.old 3], ⟨rfl, rfl, trivial⟩, ⟨rfl, rfl, trivial⟩, rfl⟩⟩

/-- A relation made, handed out with its rows frozen. -/
theorem rel_f {F : Nat} {args : List LV} {N : Nat} {R : List (List Int)} (h : HSpec env.P F args [] (relHS N 0 (R.map rowOw).length) [.tree 29 1 (R.map rowOw)]) : FSpec env.P F args (.st [.int .i64 (N : Int), .own 29 1 (R.map rowSl)]) :=
  FSpec_of_tree h (by
    simp only [relHS, exW, exsW]
    exact ⟨trivial, trivial, by rw [dms_rows]; simp, rfl, rfl, dms_rows _, by simp⟩)

/-! ### Equality -/
/-- Whether two valid relations of one size are equal. -/
def relEq (n : Int) (rows : List (List Int)) (m : Int) (rows' : List (List Int)) : Bool := alike n rows m rows' && decide (rows = rows')

theorem sets_flat (N : Nat) (P : Nat → Nat → Bool) : flatT (LV.own 100 1 ((setsP N P).map uLV)) = true := by
  simp only [flatT, flatB]
  generalize setsP N P = l
  induction l with
  | nil => rfl
  | cons x xs ih => simp only [List.map_cons, flatsB, ih]; rfl
theorem setsOf_f (n : Int) (rows : List (List Int)) (hr : RelIn n rows) : FSpec env.P 110 [relLV n rows] (.own 100 1 ((setsP rows.length (relP rows)).map uLV)) :=
  FSpec_of_HSpec (setsOf_P n rows hr) (by simp only [exW]; exact ⟨rfl, rfl, rfl, rfl, by simp⟩)
def eqU (a b : Nat) : Bool := eqI (a : Int) (b : Int)
theorem eqU_t {a b : Nat} : eqU a b = true ↔ a = b := by unfold eqU; rw [eqI_t]; omega
theorem equalSets_spec (ps qs : List Nat) : FSpec env.P 153 [.sl (ps.map uLV), .sl (qs.map uLV)] (.bool (eqList eqU ps qs)) := by
  refine FSpec_of_code env_ok (fn := Try.f153) Try.func153 rfl Try.call153 _ _ ?_
  ((repeat ((conv => whnf); first | refine brT ?_ | refine brF ?_)); conv => whnf)
  intro hp
  ((repeat ((conv => whnf); first | refine brT ?_ | refine brF ?_)); conv => whnf)
  intro hq
  ((repeat ((conv => whnf); first | refine brT ?_ | refine brF ?_)); conv => whnf)
  (refine ⟨fun h => ?_, fun h => ?_⟩ <;> rw [h])
  · ((repeat ((conv => whnf); first | refine brT ?_ | refine brF ?_)); conv => whnf)
    refine fin ?_
    rw [notB_t] at h
    rw [eqList_len (eqI_nolen h)]
  rw [notB_f] at h
  have hl := eqI_len h
  have hp' : ps.length ≤ Go.maxLen := by simpa using hp
  ((repeat ((conv => whnf); first | refine brT ?_ | refine brF ?_)); conv => whnf)
  intro _
  ((repeat ((conv => whnf); first | refine brT ?_ | refine brF ?_)); conv => whnf)
  refine loop_rule (α := Nat) (fun k => [(13, .int .i64 (k : Int))]) (fun _ => []) (fun k => ps.length - k) (fun k => k ≤ ps.length ∧ eqTo eqU ps qs k) 0 ⟨Nat.zero_le _, fun _ _ _ h => absurd h (Nat.not_lt_zero _)⟩ ?_ ?_
  · refine ⟨?_, trivial, rfl, rfl⟩
    ((repeat ((conv => whnf); refine ⟨rfl, ?_⟩)); trivial)
  rintro k ⟨hk, he⟩
  ((repeat ((conv => whnf); first | refine brT ?_ | refine brF ?_)); conv => whnf)
  (refine ⟨fun h1 => ?_, fun h1 => ?_⟩ <;> rw [h1])
  · have hlt : k < ps.length := by rw [ltI_t] at h1; simp at h1; omega
    have hlt2 : k < qs.length := by omega
    ((repeat ((conv => whnf); first | refine brT ?_ | refine brF ?_)); conv => whnf)
    refine ⟨true, by kernel_rfl, ?_⟩
    ((repeat ((conv => whnf); first | refine brT ?_ | refine brF ?_)); conv => whnf)
    refine ⟨k, uLV ps[k], rfl, by simp [hlt], rfl, ?_⟩
    ((repeat ((conv => whnf); first | refine brT ?_ | refine brF ?_)); conv => whnf)
    refine ⟨k, uLV qs[k], rfl, by simp [hlt2], rfl, ?_⟩
    ((repeat ((conv => whnf); first | refine brT ?_ | refine brF ?_)); conv => whnf)
    (refine ⟨fun h3 => ?_, fun h3 => ?_⟩ <;> rw [h3])
    · rw [notB_t] at h3
      ((repeat ((conv => whnf); first | refine brT ?_ | refine brF ?_)); conv => whnf)
      refine fin ?_
      rw [eqList_no (k := k) (x := ps[k]) (y := qs[k]) (by simp [hlt]) (by simp [hlt2]) h3]
    · rw [notB_f] at h3
      ((repeat ((conv => whnf); first | refine brT ?_ | refine brF ?_)); conv => whnf)
      refine round_end (k + 1) ⟨hlt, he.succ (x := ps[k]) (y := qs[k]) (by simp [hlt]) (by simp [hlt2]) h3⟩ (by omega) ⟨?_, trivial, rfl, rfl⟩
      have e := step_i hlt hp'
      ((repeat ((conv => whnf); first | refine ⟨e, ?_⟩ | refine ⟨rfl, ?_⟩)); trivial)
  · have h3 : ps.length ≤ k := by rw [ltI_f] at h1; simp at h1; omega
    have h4 : k = ps.length := by omega
    subst h4
    ((repeat ((conv => whnf); first | refine brT ?_ | refine brF ?_)); conv => whnf)
    refine fin ?_
    rw [eqTo.all hl he]
theorem eqList_iff {α : Type} {f : α → α → Bool} (hf : ∀ a b, f a b = true ↔ a = b) : ∀ (ps qs : List α), eqList f ps qs = true ↔ ps = qs
  | [], [] => by simp [eqList]
  | [], _ :: _ => by simp [eqList]
  | _ :: _, [] => by simp [eqList]
  | x :: xs, y :: ys => by
    simp only [eqList, Bool.and_eq_true, hf, eqList_iff hf xs ys, List.cons.injEq]
theorem sets_eq {n : Int} {rows rows' : List (List Int)} (hr : RelIn n rows) (hs : RelIn n rows') (hl : rows'.length = rows.length) :
    eqList eqU (setsP rows.length (relP rows)) (setsP rows.length (relP rows')) = decide (rows = rows') := by
  rw [Bool.eq_iff_iff, eqList_iff (fun a b => eqU_t), decide_eq_true_eq]
  constructor
  · intro h
    have e1 := setsP_rows (n := rows.length) (P := relP rows) hr.size
    have e2 := setsP_rows (n := rows.length) (P := relP rows') hr.size
    have h1 : RelIn (rows.length : Int) rows := by have := hr.len; rw [this]; exact hr
    have h2 : RelIn (rows.length : Int) rows' := by have := hr.len; rw [this]; exact hs
    rw [rows_eq h1, rows_eq h2, ← e1, ← e2, h]
  · rintro rfl; rfl
theorem implEqual_spec (n : Int) (rows : List (List Int)) (m : Int) (rows' : List (List Int)) : FSpec env.P 72 [relLV n rows, relLV m rows'] (.bool (relEq n rows m rows')) := by
  refine FSpec_of_code env_ok (fn := Try.f72) Try.func72 rfl Try.call72 _ _ ?_
  ((repeat ((conv => whnf); first | refine brT ?_ | refine brF ?_)); conv => whnf)
  refine ⟨true, by kernel_rfl, ?_⟩
  ((repeat ((conv => whnf); first | refine brT ?_ | refine brF ?_)); conv => whnf)
  refine ⟨_, areAlike_spec n rows m rows', ?_⟩
  ((repeat ((conv => whnf); first | refine brT ?_ | refine brF ?_)); conv => whnf)
  (refine ⟨fun h => ?_, fun h => ?_⟩ <;> rw [h])
  · obtain ⟨hr, hs, rfl, hl⟩ := alike_in h
    ((repeat ((conv => whnf); first | refine brT ?_ | refine brF ?_)); conv => whnf)
    refine ⟨_, setsOf_f n rows hr, ?_⟩
    ((repeat ((conv => whnf); first | refine brT ?_ | refine brF ?_)); conv => whnf)
    refine ⟨_, setsOf_f n rows' hs, ?_⟩
    rw [hl]
    ((repeat ((conv => whnf); first | refine brT ?_ | refine brF ?_)); conv => whnf)
    refine ⟨_, equalSets_spec _ _, ?_⟩
    ((repeat ((conv => whnf); first | refine brT ?_ | refine brF ?_)); conv => whnf)
    refine fin ?_
    rw [sets_eq hr hs hl]
    simp [relEq, h]
  · ((repeat ((conv => whnf); first | refine brT ?_ | refine brF ?_)); conv => whnf)
    refine fin ?_
    simp [relEq, h]

theorem l2Same_spec (N : Nat) (P Q : Nat → Nat → Bool) (hN : N ≤ 40) : FSpec env.P 118 [.sl ((gridP N P).map lineSl), .sl ((gridP N Q).map lineSl)] (.bool (decide (∀ a, a < N → ∀ b, b < N → P a b = Q a b))) := by
  refine FSpec_of_code env_ok (fn := Try.f118) Try.func118 rfl Try.call118 _ _ ?_
  ((repeat ((conv => whnf); first | refine brT ?_ | refine brF ?_)); conv => whnf)
  intro _
  rw [linesS_len]
  ((repeat ((conv => whnf); first | refine brT ?_ | refine brF ?_)); conv => whnf)
  refine loop_rule (α := Nat) (fun k => [(9, .int .i64 (k : Int))]) (fun _ => []) (fun k => N - k) (fun k => k ≤ N ∧ ∀ a, a < k → ∀ b, b < N → P a b = Q a b) 0 ⟨Nat.zero_le _, fun a h => absurd h (Nat.not_lt_zero a)⟩ ?_ ?_
  · refine ⟨?_, trivial, rfl, rfl⟩
    ((repeat ((conv => whnf); refine ⟨rfl, ?_⟩)); trivial)
  rintro k ⟨hk, he⟩
  generalize hK0 : kk _ = K0
  ((repeat ((conv => whnf); first | refine brT ?_ | refine brF ?_)); conv => whnf)
  (refine ⟨fun h1 => ?_, fun h1 => ?_⟩ <;> rw [h1])
  · have hlt : k < N := by rw [ltI_t] at h1; omega
    have e1 := step_i (n := N) hlt (by unfold Go.maxLen; omega)
    ((repeat ((conv => whnf); first | refine brT ?_ | refine brF ?_)); conv => whnf)
    refine ⟨k, lineSl (lineP N P k), rfl, linesS_get hlt, rfl, ?_⟩
    ((repeat ((conv => whnf); first | refine brT ?_ | refine brF ?_)); conv => whnf)
    intro _
    rw [cells_len]
    ((repeat ((conv => whnf); first | refine brT ?_ | refine brF ?_)); conv => whnf)
    refine loop_rule (α := Nat) (fun i => [(17, .int .i64 (i : Int))]) (fun _ => []) (fun i => N - i) (fun i => i ≤ N ∧ ∀ b, b < i → P k b = Q k b) 0 ⟨Nat.zero_le _, fun b h => absurd h (Nat.not_lt_zero b)⟩ ?_ ?_
    · refine ⟨?_, trivial, rfl, rfl⟩
      ((repeat ((conv => whnf); refine ⟨rfl, ?_⟩)); trivial)
    rintro i ⟨hi, hb⟩
    generalize hK1 : kk _ = K1
    ((repeat ((conv => whnf); first | refine brT ?_ | refine brF ?_)); conv => whnf)
    (refine ⟨fun h2 => ?_, fun h2 => ?_⟩ <;> rw [h2])
    · have hil : i < N := by rw [ltI_t] at h2; omega
      have e2 := step_i (n := N) hil (by unfold Go.maxLen; omega)
      ((repeat ((conv => whnf); first | refine brT ?_ | refine brF ?_)); conv => whnf)
      refine ⟨true, by kernel_rfl, ?_⟩
      ((repeat ((conv => whnf); first | refine brT ?_ | refine brF ?_)); conv => whnf)
      refine ⟨k, lineSl (lineP N P k), rfl, linesS_get hlt, rfl, ?_⟩
      ((repeat ((conv => whnf); first | refine brT ?_ | refine brF ?_)); conv => whnf)
      refine ⟨i, .bool (P k i), rfl, cell_get hil, rfl, ?_⟩
      ((repeat ((conv => whnf); first | refine brT ?_ | refine brF ?_)); conv => whnf)
      refine ⟨k, lineSl (lineP N Q k), rfl, linesS_get hlt, rfl, ?_⟩
      ((repeat ((conv => whnf); first | refine brT ?_ | refine brF ?_)); conv => whnf)
      refine ⟨i, .bool (Q k i), rfl, cell_get hil, rfl, ?_⟩
      ((repeat ((conv => whnf); first | refine brT ?_ | refine brF ?_)); conv => whnf)
      (refine ⟨fun h3 => ?_, fun h3 => ?_⟩ <;> rw [h3])
      · rw [notB_t] at h3
        subst hK1
        subst hK0
        ((repeat ((conv => whnf); first | refine brT ?_ | refine brF ?_)); conv => whnf)
        refine fin ?_
        refine Eq.symm (decide_eq_false ?_)
        intro h
        have := h k hlt i hil
        rw [this] at h3
        rw [eqB_refl] at h3
        cases h3
      · rw [notB_f] at h3
        have hv : P k i = Q k i := by unfold eqB at h3; simpa using h3
        ((repeat ((conv => whnf); first | refine brT ?_ | refine brF ?_)); conv => whnf)
        have hb2 : ∀ b, b < i + 1 → P k b = Q k b := by
          intro b hb'
          rcases Nat.lt_or_ge b i with h | h
          · exact hb b h
          · obtain rfl : b = i := by omega
            exact hv
        refine round_end (i + 1) ⟨hil, hb2⟩ (by omega) ⟨?_, trivial, rfl, rfl⟩
        ((repeat ((conv => whnf); first | refine ⟨e2, ?_⟩ | refine ⟨rfl, ?_⟩)); trivial)
    · have hil : i = N := by rw [ltI_f] at h2; omega
      subst hil
      subst hK1
      ((repeat ((conv => whnf); first | refine brT ?_ | refine brF ?_)); conv => whnf)
      have he2 : ∀ a, a < k + 1 → ∀ b, b < i → P a b = Q a b := by
        intro a ha
        rcases Nat.lt_or_ge a k with h | h
        · exact he a h
        · obtain rfl : a = k := by omega
          exact hb
      refine round_end (k + 1) ⟨hlt, he2⟩ (by omega) ⟨?_, trivial, rfl, rfl⟩
      ((repeat ((conv => whnf); first | refine ⟨e1, ?_⟩ | refine ⟨rfl, ?_⟩)); trivial)
  · have h3 : k = N := by rw [ltI_f] at h1; omega
    subst h3
    subst hK0
    ((repeat ((conv => whnf); first | refine brT ?_ | refine brF ?_)); conv => whnf)
    refine fin ?_
    exact Eq.symm (decide_eq_true he)
theorem grid_eq {n : Int} {rows rows' : List (List Int)} (hr : RelIn n rows) (hs : RelIn n rows') (hl : rows'.length = rows.length) :
    decide (∀ a, a < rows.length → ∀ b, b < rows.length → relP rows a b = relP rows' a b) = decide (rows = rows') := by
  rw [decide_eq_decide]
  constructor
  · intro h
    have h1 : RelIn (rows.length : Int) rows := by have := hr.len; rw [this]; exact hr
    have h2 : RelIn (rows.length : Int) rows' := by have := hr.len; rw [this]; exact hs
    rw [rows_eq h1, rows_eq h2, relRows_ext h]
  · rintro rfl; exact fun _ _ _ _ => rfl
theorem specEqual_spec (n : Int) (rows : List (List Int)) (m : Int) (rows' : List (List Int)) : FSpec env.P 40 [relLV n rows, relLV m rows'] (.bool (relEq n rows m rows')) := by
  refine FSpec_of_code env_ok (fn := Try.f40) Try.func40 rfl Try.call40 _ _ ?_
  ((repeat ((conv => whnf); first | refine brT ?_ | refine brF ?_)); conv => whnf)
  refine ⟨true, by kernel_rfl, ?_⟩
  ((repeat ((conv => whnf); first | refine brT ?_ | refine brF ?_)); conv => whnf)
  refine ⟨_, l2Both_spec n rows m rows', ?_⟩
  ((repeat ((conv => whnf); first | refine brT ?_ | refine brF ?_)); conv => whnf)
  (refine ⟨fun h => ?_, fun h => ?_⟩ <;> rw [h])
  · obtain ⟨hr, hs, rfl, hl⟩ := alike_in h
    have hq := l2Grid_f n rows' hs
    rw [hl] at hq
    ((repeat ((conv => whnf); first | refine brT ?_ | refine brF ?_)); conv => whnf)
    refine ⟨_, l2Grid_f n rows hr, ?_⟩
    ((repeat ((conv => whnf); first | refine brT ?_ | refine brF ?_)); conv => whnf)
    refine ⟨_, hq, ?_⟩
    ((repeat ((conv => whnf); first | refine brT ?_ | refine brF ?_)); conv => whnf)
    refine ⟨_, l2Same_spec rows.length (relP rows) (relP rows') hr.size, ?_⟩
    ((repeat ((conv => whnf); first | refine brT ?_ | refine brF ?_)); conv => whnf)
    refine fin ?_
    rw [grid_eq hr hs hl]
    simp [relEq, h]
  · ((repeat ((conv => whnf); first | refine brT ?_ | refine brF ?_)); conv => whnf)
    refine fin ?_
    simp [relEq, h]
end Go.Proofs.Ytfdjeflnjciloaa

namespace Go.Proofs.Ytfdjeflnjciloaa
open Go.Lg
set_option maxHeartbeats 1600000
set_option maxRecDepth 10000
set_option linter.unusedVariables false
set_option linter.unusedSimpArgs false

theorem mem_prFrom : ∀ (rows : List (List Int)) (a0 : Nat) (p : Pr), p ∈ prFrom a0 rows ↔ ∃ i : Nat, i < rows.length ∧ p.a = ((a0 + i : Nat) : Int) ∧ p.b ∈ rows.getD i []
  | [], a0, p => by simp [prFrom]
  | r :: rs, a0, p => by
    simp only [prFrom, List.mem_append, mem_prFrom rs (a0 + 1) p]
    constructor
    · rintro (h | ⟨i, h1, h2, h3⟩)
      · obtain ⟨b, hb, rfl⟩ := List.mem_map.1 h
        exact ⟨0, by simp, by simp, by simpa using hb⟩
      · exact ⟨i + 1, by simp; omega, by rw [h2]; congr 1; omega, by simpa using h3⟩
    · rintro ⟨i, h1, h2, h3⟩
      cases i with
      | zero =>
        left
        refine List.mem_map.2 ⟨p.b, by simpa using h3, ?_⟩
        cases p; simp at h2 ⊢; exact h2.symm
      | succ i => right; exact ⟨i, by simpa using h1, by rw [h2]; congr 1; omega, by simpa using h3⟩

/-- Whether what is related in the one is related in the other. -/
def relWithin (n : Int) (rows : List (List Int)) (m : Int) (rows' : List (List Int)) : Bool :=
  alike n rows m rows' && decide (∀ a, a < rows.length → ∀ b, b < rows.length → relP rows a b = true → relP rows' a b = true)

theorem less_none {N : Nat} {P Q : Nat → Nat → Bool} (hN : N ≤ 40) : eqI ((pairsL N (relRows N (allP (fun x y => x && !y) P Q))).length : Int) 0 = decide (∀ a, a < N → ∀ b, b < N → P a b = true → Q a b = true) := by
  have hin := relRows_in (n := N) (P := allP (fun x y => x && !y) P Q) hN
  have e : pairsL N (relRows N (allP (fun x y => x && !y) P Q)) = prFrom 0 (relRows N (allP (fun x y => x && !y) P Q)) := by unfold pairsL; rw [relOk_of hin]
  rw [e, Bool.eq_iff_iff, eqI_t, decide_eq_true_eq]
  constructor
  · intro h a ha b hb hp
    cases hq : Q a b
    · exfalso
      have hz : prFrom 0 (relRows N (allP (fun x y => x && !y) P Q)) = [] := List.eq_nil_of_length_eq_zero (by omega)
      have hm : (⟨(a : Int), (b : Int)⟩ : Pr) ∈ prFrom 0 (relRows N (allP (fun x y => x && !y) P Q)) :=
        (mem_prFrom _ 0 _).2 ⟨a, by rw [relRows_len]; exact ha, by simp, (relRows_mem ha).2 ⟨hb, by simp [allP, hp, hq]⟩⟩
      rw [hz] at hm
      simp at hm
    · rfl
  · intro h
    have : prFrom 0 (relRows N (allP (fun x y => x && !y) P Q)) = [] := by
      rw [List.eq_nil_iff_forall_not_mem]
      intro p hp
      obtain ⟨i, h1, h2, h3⟩ := (mem_prFrom _ 0 p).1 hp
      rw [relRows_len] at h1
      have hr : (relRows N (allP (fun x y => x && !y) P Q)).getD i [] ∈ relRows N (allP (fun x y => x && !y) P Q) := by
        have : i < (relRows N (allP (fun x y => x && !y) P Q)).length := by rw [relRows_len]; exact h1
        rw [List.getD_eq_getElem?_getD, List.getElem?_eq_getElem this]; exact List.getElem_mem this
      obtain ⟨b0, b1, _⟩ := hin.mem hr h3
      obtain ⟨b, hb⟩ : ∃ b : Nat, p.b = (b : Int) := ⟨p.b.toNat, by omega⟩
      rw [hb, relRows_mem h1] at h3
      have := h i h1 b h3.1
      simp only [allP, Bool.and_eq_true, Bool.not_eq_true'] at h3
      rw [this h3.2.1] at h3
      simp at h3
    rw [this]; rfl

theorem pairs_flat (ps : List Pr) : flatT (LV.own 109 2 (ps.map Pr.lv)) = true := by simp only [flatT, flatB]; exact flats_prs ps
theorem pairsOf_f (n : Int) (rows : List (List Int)) : FSpec env.P 47 [relLV n rows] (.own 109 2 ((pairsL n rows).map Pr.lv)) :=
  FSpec_of_HSpec (pairsOf_h n rows) (by simp only [exW]; exact ⟨rfl, rfl, rfl, rfl, by simp⟩)
theorem specPairs_f (n : Int) (rows : List (List Int)) : FSpec env.P 83 [relLV n rows] (.own 109 2 ((pairsL n rows).map Pr.lv)) :=
  FSpec_of_HSpec (specPairs_h n rows) (by simp only [exW]; exact ⟨rfl, rfl, rfl, rfl, by simp⟩)

theorem implWithin_spec (n : Int) (rows : List (List Int)) (m : Int) (rows' : List (List Int)) : FSpec env.P 42 [relLV n rows, relLV m rows'] (.bool (relWithin n rows m rows')) := by
  refine FSpec_of_code env_ok (fn := Try.f42) Try.func42 rfl Try.call42 _ _ ?_
  ((repeat ((conv => whnf); first | refine brT ?_ | refine brF ?_)); conv => whnf)
  refine ⟨_, areAlike_spec n rows m rows', ?_⟩
  ((repeat ((conv => whnf); first | refine brT ?_ | refine brF ?_)); conv => whnf)
  (refine ⟨fun h => ?_, fun h => ?_⟩ <;> rw [h])
  · obtain ⟨hr, hs, rfl, hl⟩ := alike_in h
    have hL := rel_f (impl_less n rows n rows')
    rw [h, show rsN true rows = rows.length from rfl] at hL
    ((repeat ((conv => whnf); first | refine brT ?_ | refine brF ?_)); conv => whnf)
    refine ⟨_, hL, ?_⟩
    ((repeat ((conv => whnf); first | refine brT ?_ | refine brF ?_)); conv => whnf)
    refine ⟨_, pairsOf_f (rows.length : Int) (relRows rows.length (allP (fun x y => x && !y) (relP rows) (relP rows'))), ?_⟩
    ((repeat ((conv => whnf); first | refine brT ?_ | refine brF ?_)); conv => whnf)
    intro _
    rw [List.length_map]
    ((repeat ((conv => whnf); first | refine brT ?_ | refine brF ?_)); conv => whnf)
    refine fin ?_
    rw [less_none hr.size]
    simp [relWithin, h]
  · ((repeat ((conv => whnf); first | refine brT ?_ | refine brF ?_)); conv => whnf)
    refine fin ?_
    simp [relWithin, h]

theorem specWithin_spec (n : Int) (rows : List (List Int)) (m : Int) (rows' : List (List Int)) : FSpec env.P 93 [relLV n rows, relLV m rows'] (.bool (relWithin n rows m rows')) := by
  refine FSpec_of_code env_ok (fn := Try.f93) Try.func93 rfl Try.call93 _ _ ?_
  ((repeat ((conv => whnf); first | refine brT ?_ | refine brF ?_)); conv => whnf)
  refine ⟨_, l2Both_spec n rows m rows', ?_⟩
  ((repeat ((conv => whnf); first | refine brT ?_ | refine brF ?_)); conv => whnf)
  (refine ⟨fun h => ?_, fun h => ?_⟩ <;> rw [h])
  · rw [notB_t] at h
    ((repeat ((conv => whnf); first | refine brT ?_ | refine brF ?_)); conv => whnf)
    refine fin ?_
    simp [relWithin, h]
  rw [notB_f] at h
  obtain ⟨hr, hs, rfl, hl⟩ := alike_in h
  have hN := hr.size
  have hq := l2Grid_f n rows' hs
  rw [hl] at hq
  ((repeat ((conv => whnf); first | refine brT ?_ | refine brF ?_)); conv => whnf)
  refine ⟨_, hq, ?_⟩
  ((repeat ((conv => whnf); first | refine brT ?_ | refine brF ?_)); conv => whnf)
  refine ⟨_, specPairs_f n rows, ?_⟩
  have e : pairsL n rows = prFrom 0 rows := by unfold pairsL; rw [relOk_of hr]
  rw [e]
  have hmem := mem_prFrom rows 0
  have hps : (prFrom 0 rows).length ≤ 1600 := by rw [prFrom_len]; exact hr.tot
  have hgo : decide (∀ a, a < rows.length → ∀ b, b < rows.length → relP rows a b = true → relP rows' a b = true) = decide (∀ p ∈ prFrom 0 rows, relP rows' p.a.toNat p.b.toNat = true) := by
    rw [decide_eq_decide]
    constructor
    · intro hh p hp
      obtain ⟨i, h1, h2, h3⟩ := (hmem p).1 hp
      have hi : rows.getD i [] = rows[i] := by simp [List.getD_eq_getElem?_getD, h1]
      obtain ⟨b0, b1, _⟩ := hr.mem (List.getElem_mem h1) (hi ▸ h3)
      have hn := hr.len
      have ea : p.a.toNat = i := by omega
      rw [ea]
      refine hh i h1 p.b.toNat (by omega) ?_
      unfold relP
      rw [decide_eq_true_eq, show ((p.b.toNat : Nat) : Int) = p.b by omega]
      exact h3
    · intro hh a ha b hb hp
      unfold relP at hp
      have := hh ⟨(a : Int), (b : Int)⟩ ((hmem _).2 ⟨a, ha, by simp, by simpa using hp⟩)
      simpa using this
  have hin : ∀ p ∈ prFrom 0 rows, ∃ a b : Nat, p = ⟨(a : Int), (b : Int)⟩ ∧ a < rows.length ∧ b < rows.length := by
    intro p hp
    obtain ⟨i, h1, h2, h3⟩ := (hmem p).1 hp
    have hi : rows.getD i [] = rows[i] := by simp [List.getD_eq_getElem?_getD, h1]
    obtain ⟨b0, b1, _⟩ := hr.mem (List.getElem_mem h1) (hi ▸ h3)
    have hn := hr.len
    refine ⟨i, p.b.toNat, ?_, h1, by omega⟩
    cases p
    simp at h2 b0 ⊢
    exact ⟨h2, by omega⟩
  have hW : relWithin n rows n rows' = decide (∀ p ∈ prFrom 0 rows, relP rows' p.a.toNat p.b.toNat = true) := by unfold relWithin; rw [h, hgo, Bool.true_and]
  rw [hW]
  generalize prFrom 0 rows = ps at hps hin
  generalize relP rows' = Q
  generalize rows.length = N at hN hin
  ((repeat ((conv => whnf); first | refine brT ?_ | refine brF ?_)); conv => whnf)
  intro _
  rw [List.length_map]
  ((repeat ((conv => whnf); first | refine brT ?_ | refine brF ?_)); conv => whnf)
  refine loop_rule (α := Nat) (fun k => [(17, .int .i64 (k : Int))]) (fun _ => [.box (relLV n rows), .box (relLV n rows')]) (fun k => ps.length - k) (fun k => k ≤ ps.length ∧ ∀ p ∈ ps.take k, Q p.a.toNat p.b.toNat = true) 0 ⟨Nat.zero_le _, fun p hp => by simp at hp⟩ ?_ ?_
  · refine ⟨?_, ⟨rfl, rfl, trivial⟩, rfl, rfl⟩
    ((repeat ((conv => whnf); refine ⟨rfl, ?_⟩)); trivial)
  rintro k ⟨hk, he⟩
  ((repeat ((conv => whnf); first | refine brT ?_ | refine brF ?_)); conv => whnf)
  (refine ⟨fun h1 => ?_, fun h1 => ?_⟩ <;> rw [h1])
  · have hlt : k < ps.length := by rw [ltI_t] at h1; omega
    have e1 := step_i (n := ps.length) hlt (by unfold Go.maxLen; omega)
    obtain ⟨a, b, hpk, ha, hb⟩ := hin ps[k] (List.getElem_mem hlt)
    ((repeat ((conv => whnf); first | refine brT ?_ | refine brF ?_)); conv => whnf)
    refine ⟨k, ps[k].lv, rfl, by simp [hlt], rfl, ?_⟩
    rw [hpk]
    ((repeat ((conv => whnf); first | refine brT ?_ | refine brF ?_)); conv => whnf)
    refine ⟨true, by kernel_rfl, ?_⟩
    ((repeat ((conv => whnf); first | refine brT ?_ | refine brF ?_)); conv => whnf)
    refine ⟨a, lineSl (lineP N Q a), rfl, linesS_get ha, rfl, ?_⟩
    ((repeat ((conv => whnf); first | refine brT ?_ | refine brF ?_)); conv => whnf)
    refine ⟨b, .bool (Q a b), rfl, cell_get hb, rfl, ?_⟩
    ((repeat ((conv => whnf); first | refine brT ?_ | refine brF ?_)); conv => whnf)
    (refine ⟨fun h3 => ?_, fun h3 => ?_⟩ <;> rw [h3])
    · rw [notB_t] at h3
      ((repeat ((conv => whnf); first | refine brT ?_ | refine brF ?_)); conv => whnf)
      refine fin ?_
      refine Eq.symm (decide_eq_false ?_)
      intro hh
      have := hh ps[k] (List.getElem_mem hlt)
      rw [hpk] at this
      simp at this
      rw [this] at h3; cases h3
    · rw [notB_f] at h3
      ((repeat ((conv => whnf); first | refine brT ?_ | refine brF ?_)); conv => whnf)
      refine round_end (k + 1) ⟨hlt, fun p hp => ?_⟩ (by omega) ⟨?_, ⟨rfl, rfl, trivial⟩, rfl, rfl⟩
      · rw [List.take_succ_eq_append_getElem hlt, List.mem_append, List.mem_singleton] at hp
        rcases hp with hp | rfl
        · exact he p hp
        · rw [hpk]; simpa using h3
      · ((repeat ((conv => whnf); first | refine ⟨e1, ?_⟩ | refine ⟨rfl, ?_⟩)); trivial)
  · have h3 : k = ps.length := by rw [ltI_f] at h1; omega
    subst h3
    rw [List.take_length] at he
    ((repeat ((conv => whnf); first | refine brT ?_ | refine brF ?_)); conv => whnf)
    refine fin ?_
    exact Eq.symm (decide_eq_true he)
end Go.Proofs.Ytfdjeflnjciloaa

namespace Go.Proofs.Ytfdjeflnjciloaa
open Go.Lg
set_option maxHeartbeats 1600000
set_option maxRecDepth 10000
set_option linter.unusedVariables false
set_option linter.unusedSimpArgs false

theorem tot_relRows {N : Nat} {P : Nat → Nat → Bool} (hN : N ≤ 40) : tot (relRows N P) ≤ 1600 := (relRows_in hN).tot
theorem rsN_le {n : Int} {rows : List (List Int)} : rsN (relOk n rows) rows ≤ 40 := by
  cases h : relOk n rows
  · simp [rsN]
  · exact (relIn_of h).size
theorem rsN_le2 {n : Int} {rows : List (List Int)} {m : Int} {rows' : List (List Int)} : rsN (alike n rows m rows') rows ≤ 40 := by
  cases h : alike n rows m rows'
  · simp [rsN]
  · exact (alike_in h).1.size

theorem law_converse (n : Int) (rows : List (List Int)) (hl : RowsLen rows) : FSpec env.P 22 [relLV n rows] (.bool true) := by
  refine FSpec_of_code (E := env.x [91, 39, 69, 75] 0) env_ok.x (fn := Try.f22) Try.func22 rfl Try.call22 _ _ ?_
  have hR := tot_relRows (P := convP rows) (rsN_le (n := n) (rows := rows))
  generalize hRR : relRows (rsN (relOk n rows) rows) (convP rows) = R at hR
  generalize hNN : rsN (relOk n rows) rows = N
  have hS := specConverse_h n rows
  have hI := implConverse_h n rows
  rw [hRR, hNN] at hS hI
  ((repeat ((conv => whnf); first | refine brT ?_ | refine brF ?_)); conv => whnf)
  refine ⟨_, szRelation_spec n rows 1048576, ?_⟩
  by_cases h0 : 0 ≤ szRows 1048576 rows
  rotate_left
  · rw [show ltI (szRows 1048576 rows) 0 = true by rw [ltI_t]; omega]
    ((repeat ((conv => whnf); first | refine brT ?_ | refine brF ?_)); conv => whnf)
    rw [show ltI (-1) 0 = true by rw [ltI_t]; omega]
    ((repeat ((conv => whnf); first | refine brT ?_ | refine brF ?_)); conv => whnf)
    exact fin rfl
  obtain ⟨hb, ht, hlen, _, hf⟩ := szRows_ok (by omega) (by omega) hl h0
  rw [hf]
  ((repeat ((conv => whnf); first | refine brT ?_ | refine brF ?_)); conv => whnf)
  rw [hf]
  ((repeat ((conv => whnf); first | refine brT ?_ | refine brF ?_)); conv => whnf)
  refine ⟨[], _, _, _, _, toRelation_h n rows hb, rfl, rfl, rfl, trivial, ?_⟩
  ((repeat ((conv => whnf); first | refine brT ?_ | refine brF ?_)); conv => whnf)
  refine ⟨[], _, _, _, _, hS, rfl, ?_⟩
  ((repeat ((conv => whnf); first | refine brT ?_ | refine brF ?_)); conv => whnf)
  refine ⟨rfl, _, dms_rows _, ?_⟩
  ((repeat ((conv => whnf); first | refine brT ?_ | refine brF ?_)); conv => whnf)
  refine ⟨rfl, rfl, ⟨rfl, flatTs_rows _, trivial⟩, ?_⟩
  ((repeat ((conv => whnf); first | refine brT ?_ | refine brF ?_)); conv => whnf)
  refine ⟨[], _, _, _, _, toRelation_h n rows hb, rfl, rfl, rfl, trivial, ?_⟩
  ((repeat ((conv => whnf); first | refine brT ?_ | refine brF ?_)); conv => whnf)
  refine ⟨[], _, _, _, _, hI, rfl, ?_⟩
  ((repeat ((conv => whnf); first | refine brT ?_ | refine brF ?_)); conv => whnf)
  refine ⟨rfl, _, dms_rows _, ?_⟩
  ((repeat ((conv => whnf); first | refine brT ?_ | refine brF ?_)); conv => whnf)
  refine ⟨rfl, rfl, ⟨rfl, flatTs_rows _, trivial⟩, ?_⟩
  ((repeat ((conv => whnf); first | refine brT ?_ | refine brF ?_)); conv => whnf)
  refine ⟨rfl, _, dms_rows _, ?_⟩
  ((repeat ((conv => whnf); first | refine brT ?_ | refine brF ?_)); conv => whnf)
  refine ⟨rfl, _, dms_rows _, ?_⟩
  ((repeat ((conv => whnf); first | refine brT ?_ | refine brF ?_)); conv => whnf)
  refine ⟨_, eqRelation_spec _ _ _ _, ?_⟩
  rw [eqRel_refl]
  ((repeat ((conv => whnf); first | refine brT ?_ | refine brF ?_)); conv => whnf)
  rw [show notB true = false by simp [notB]]
  ((repeat ((conv => whnf); first | refine brT ?_ | refine brF ?_)); conv => whnf)
  refine ⟨true, by kernel_rfl, ?_⟩
  ((repeat ((conv => whnf); first | refine brT ?_ | refine brF ?_)); conv => whnf)
  refine ⟨_, toRelation_f n rows hb, ?_⟩
  ((repeat ((conv => whnf); first | refine brT ?_ | refine brF ?_)); conv => whnf)
  refine ⟨rfl, _, dms_rows _, ?_⟩
  ((repeat ((conv => whnf); first | refine brT ?_ | refine brF ?_)); conv => whnf)
  refine ⟨_, eqRelation_spec n rows n rows, ?_⟩
  rw [eqRel_refl]
  ((repeat ((conv => whnf); first | refine brT ?_ | refine brF ?_)); conv => whnf)
  rw [show notB true = false by simp [notB]]
  ((repeat ((conv => whnf); first | refine brT ?_ | refine brF ?_)); conv => whnf)
  refine ⟨[4], _, _, _, _, markRelation_spec _ _ _ rfl 1 (by omega) (by omega), rfl, rfl, rfl, trivial, ?_⟩
  ((repeat ((conv => whnf); first | refine brT ?_ | refine brF ?_)); conv => whnf)
  rw [show ltI (1 + (tot rows : Int)) 0 = false by rw [ltI_f]; omega]
  ((repeat ((conv => whnf); first | refine brT ?_ | refine brF ?_)); conv => whnf)
  refine ⟨rfl, _, dms_rows _, ?_⟩
  ((repeat ((conv => whnf); first | refine brT ?_ | refine brF ?_)); conv => whnf)
  refine ⟨rfl, _, dms_rows _, ?_⟩
  ((repeat ((conv => whnf); first | refine brT ?_ | refine brF ?_)); conv => whnf)
  refine ⟨_, eqRelation_spec _ _ _ _, ?_⟩
  rw [eqRel_refl]
  ((repeat ((conv => whnf); first | refine brT ?_ | refine brF ?_)); conv => whnf)
  rw [show notB true = false by simp [notB]]
  ((repeat ((conv => whnf); first | refine brT ?_ | refine brF ?_)); conv => whnf)
  refine ⟨[6], _, _, _, _, markRelation_spec _ _ _ rfl 1 (by omega) (by omega), rfl, rfl, rfl, trivial, ?_⟩
  ((repeat ((conv => whnf); first | refine brT ?_ | refine brF ?_)); conv => whnf)
  refine ⟨by simp [markRows_len], _, dms_rows _, ?_⟩
  ((repeat ((conv => whnf); first | refine brT ?_ | refine brF ?_)); conv => whnf)
  refine ⟨_, heldRelation_spec _ R 1 (by omega) (by omega), ?_⟩
  ((repeat ((conv => whnf); first | refine brT ?_ | refine brF ?_)); conv => whnf)
  rw [show ltI (1 + (tot R : Int)) 0 = false by rw [ltI_f]; omega]
  ((repeat ((conv => whnf); first | refine brT ?_ | refine brF ?_)); conv => whnf)
  rw [eqI_refl, show notB true = false by simp [notB]]
  ((repeat ((conv => whnf); first | refine brT ?_ | refine brF ?_)); conv => whnf)
  refine ⟨[], _, _, _, _, toRelation_h n rows hb, rfl, rfl, rfl, trivial, ?_⟩
  ((repeat ((conv => whnf); first | refine brT ?_ | refine brF ?_)); conv => whnf)
  refine ⟨[], _, _, _, _, hI, rfl, ?_⟩
  ((repeat ((conv => whnf); first | refine brT ?_ | refine brF ?_)); conv => whnf)
  refine ⟨rfl, _, dms_rows _, ?_⟩
  ((repeat ((conv => whnf); first | refine brT ?_ | refine brF ?_)); conv => whnf)
  refine ⟨rfl, rfl, ⟨rfl, flatTs_rows _, trivial⟩, ?_⟩
  ((repeat ((conv => whnf); first | refine brT ?_ | refine brF ?_)); conv => whnf)
  refine ⟨rfl, _, dms_rows _, ?_⟩
  ((repeat ((conv => whnf); first | refine brT ?_ | refine brF ?_)); conv => whnf)
  refine ⟨rfl, _, dms_rows _, ?_⟩
  ((repeat ((conv => whnf); first | refine brT ?_ | refine brF ?_)); conv => whnf)
  refine ⟨_, eqRelation_spec _ _ _ _, ?_⟩
  rw [eqRel_refl]
  ((repeat ((conv => whnf); first | refine brT ?_ | refine brF ?_)); conv => whnf)
  rw [show notB true = false by simp [notB]]
  ((repeat ((conv => whnf); first | refine brT ?_ | refine brF ?_)); conv => whnf)
  refine ⟨by simp [markRows_len], _, dms_rows _, ?_⟩
  ((repeat ((conv => whnf); first | refine brT ?_ | refine brF ?_)); conv => whnf)
  refine ⟨_, heldRelation_spec _ R 1 (by omega) (by omega), ?_⟩
  ((repeat ((conv => whnf); first | refine brT ?_ | refine brF ?_)); conv => whnf)
  rw [show ltI (1 + (tot R : Int)) 0 = false by rw [ltI_f]; omega]
  ((repeat ((conv => whnf); first | refine brT ?_ | refine brF ?_)); conv => whnf)
  rw [eqI_refl, show notB true = false by simp [notB]]
  ((repeat ((conv => whnf); first | refine brT ?_ | refine brF ?_)); conv => whnf)
  exact fin rfl
theorem law_closure (n : Int) (rows : List (List Int)) (hl : RowsLen rows) : FSpec env.P 23 [relLV n rows] (.bool true) := by
  refine FSpec_of_code (E := env.x [92, 45, 69, 75] 0) env_ok.x (fn := Try.f23) Try.func23 rfl Try.call23 _ _ ?_
  have hR := tot_relRows (P := closP rows.length (relP rows)) (rsN_le (n := n) (rows := rows))
  generalize hRR : relRows (rsN (relOk n rows) rows) (closP rows.length (relP rows)) = R at hR
  generalize hNN : rsN (relOk n rows) rows = N
  have hS := specClosure_h n rows
  have hI := implClosure_h n rows
  rw [hRR, hNN] at hS hI
  ((repeat ((conv => whnf); first | refine brT ?_ | refine brF ?_)); conv => whnf)
  refine ⟨_, szRelation_spec n rows 1048576, ?_⟩
  by_cases h0 : 0 ≤ szRows 1048576 rows
  rotate_left
  · rw [show ltI (szRows 1048576 rows) 0 = true by rw [ltI_t]; omega]
    ((repeat ((conv => whnf); first | refine brT ?_ | refine brF ?_)); conv => whnf)
    rw [show ltI (-1) 0 = true by rw [ltI_t]; omega]
    ((repeat ((conv => whnf); first | refine brT ?_ | refine brF ?_)); conv => whnf)
    exact fin rfl
  obtain ⟨hb, ht, hlen, _, hf⟩ := szRows_ok (by omega) (by omega) hl h0
  rw [hf]
  ((repeat ((conv => whnf); first | refine brT ?_ | refine brF ?_)); conv => whnf)
  rw [hf]
  ((repeat ((conv => whnf); first | refine brT ?_ | refine brF ?_)); conv => whnf)
  refine ⟨[], _, _, _, _, toRelation_h n rows hb, rfl, rfl, rfl, trivial, ?_⟩
  ((repeat ((conv => whnf); first | refine brT ?_ | refine brF ?_)); conv => whnf)
  refine ⟨[], _, _, _, _, hS, rfl, ?_⟩
  ((repeat ((conv => whnf); first | refine brT ?_ | refine brF ?_)); conv => whnf)
  refine ⟨rfl, _, dms_rows _, ?_⟩
  ((repeat ((conv => whnf); first | refine brT ?_ | refine brF ?_)); conv => whnf)
  refine ⟨rfl, rfl, ⟨rfl, flatTs_rows _, trivial⟩, ?_⟩
  ((repeat ((conv => whnf); first | refine brT ?_ | refine brF ?_)); conv => whnf)
  refine ⟨[], _, _, _, _, toRelation_h n rows hb, rfl, rfl, rfl, trivial, ?_⟩
  ((repeat ((conv => whnf); first | refine brT ?_ | refine brF ?_)); conv => whnf)
  refine ⟨[], _, _, _, _, hI, rfl, ?_⟩
  ((repeat ((conv => whnf); first | refine brT ?_ | refine brF ?_)); conv => whnf)
  refine ⟨rfl, _, dms_rows _, ?_⟩
  ((repeat ((conv => whnf); first | refine brT ?_ | refine brF ?_)); conv => whnf)
  refine ⟨rfl, rfl, ⟨rfl, flatTs_rows _, trivial⟩, ?_⟩
  ((repeat ((conv => whnf); first | refine brT ?_ | refine brF ?_)); conv => whnf)
  refine ⟨rfl, _, dms_rows _, ?_⟩
  ((repeat ((conv => whnf); first | refine brT ?_ | refine brF ?_)); conv => whnf)
  refine ⟨rfl, _, dms_rows _, ?_⟩
  ((repeat ((conv => whnf); first | refine brT ?_ | refine brF ?_)); conv => whnf)
  refine ⟨_, eqRelation_spec _ _ _ _, ?_⟩
  rw [eqRel_refl]
  ((repeat ((conv => whnf); first | refine brT ?_ | refine brF ?_)); conv => whnf)
  rw [show notB true = false by simp [notB]]
  ((repeat ((conv => whnf); first | refine brT ?_ | refine brF ?_)); conv => whnf)
  refine ⟨true, by kernel_rfl, ?_⟩
  ((repeat ((conv => whnf); first | refine brT ?_ | refine brF ?_)); conv => whnf)
  refine ⟨_, toRelation_f n rows hb, ?_⟩
  ((repeat ((conv => whnf); first | refine brT ?_ | refine brF ?_)); conv => whnf)
  refine ⟨rfl, _, dms_rows _, ?_⟩
  ((repeat ((conv => whnf); first | refine brT ?_ | refine brF ?_)); conv => whnf)
  refine ⟨_, eqRelation_spec n rows n rows, ?_⟩
  rw [eqRel_refl]
  ((repeat ((conv => whnf); first | refine brT ?_ | refine brF ?_)); conv => whnf)
  rw [show notB true = false by simp [notB]]
  ((repeat ((conv => whnf); first | refine brT ?_ | refine brF ?_)); conv => whnf)
  refine ⟨[4], _, _, _, _, markRelation_spec _ _ _ rfl 1 (by omega) (by omega), rfl, rfl, rfl, trivial, ?_⟩
  ((repeat ((conv => whnf); first | refine brT ?_ | refine brF ?_)); conv => whnf)
  rw [show ltI (1 + (tot rows : Int)) 0 = false by rw [ltI_f]; omega]
  ((repeat ((conv => whnf); first | refine brT ?_ | refine brF ?_)); conv => whnf)
  refine ⟨rfl, _, dms_rows _, ?_⟩
  ((repeat ((conv => whnf); first | refine brT ?_ | refine brF ?_)); conv => whnf)
  refine ⟨rfl, _, dms_rows _, ?_⟩
  ((repeat ((conv => whnf); first | refine brT ?_ | refine brF ?_)); conv => whnf)
  refine ⟨_, eqRelation_spec _ _ _ _, ?_⟩
  rw [eqRel_refl]
  ((repeat ((conv => whnf); first | refine brT ?_ | refine brF ?_)); conv => whnf)
  rw [show notB true = false by simp [notB]]
  ((repeat ((conv => whnf); first | refine brT ?_ | refine brF ?_)); conv => whnf)
  refine ⟨[6], _, _, _, _, markRelation_spec _ _ _ rfl 1 (by omega) (by omega), rfl, rfl, rfl, trivial, ?_⟩
  ((repeat ((conv => whnf); first | refine brT ?_ | refine brF ?_)); conv => whnf)
  refine ⟨by simp [markRows_len], _, dms_rows _, ?_⟩
  ((repeat ((conv => whnf); first | refine brT ?_ | refine brF ?_)); conv => whnf)
  refine ⟨_, heldRelation_spec _ R 1 (by omega) (by omega), ?_⟩
  ((repeat ((conv => whnf); first | refine brT ?_ | refine brF ?_)); conv => whnf)
  rw [show ltI (1 + (tot R : Int)) 0 = false by rw [ltI_f]; omega]
  ((repeat ((conv => whnf); first | refine brT ?_ | refine brF ?_)); conv => whnf)
  rw [eqI_refl, show notB true = false by simp [notB]]
  ((repeat ((conv => whnf); first | refine brT ?_ | refine brF ?_)); conv => whnf)
  refine ⟨[], _, _, _, _, toRelation_h n rows hb, rfl, rfl, rfl, trivial, ?_⟩
  ((repeat ((conv => whnf); first | refine brT ?_ | refine brF ?_)); conv => whnf)
  refine ⟨[], _, _, _, _, hI, rfl, ?_⟩
  ((repeat ((conv => whnf); first | refine brT ?_ | refine brF ?_)); conv => whnf)
  refine ⟨rfl, _, dms_rows _, ?_⟩
  ((repeat ((conv => whnf); first | refine brT ?_ | refine brF ?_)); conv => whnf)
  refine ⟨rfl, rfl, ⟨rfl, flatTs_rows _, trivial⟩, ?_⟩
  ((repeat ((conv => whnf); first | refine brT ?_ | refine brF ?_)); conv => whnf)
  refine ⟨rfl, _, dms_rows _, ?_⟩
  ((repeat ((conv => whnf); first | refine brT ?_ | refine brF ?_)); conv => whnf)
  refine ⟨rfl, _, dms_rows _, ?_⟩
  ((repeat ((conv => whnf); first | refine brT ?_ | refine brF ?_)); conv => whnf)
  refine ⟨_, eqRelation_spec _ _ _ _, ?_⟩
  rw [eqRel_refl]
  ((repeat ((conv => whnf); first | refine brT ?_ | refine brF ?_)); conv => whnf)
  rw [show notB true = false by simp [notB]]
  ((repeat ((conv => whnf); first | refine brT ?_ | refine brF ?_)); conv => whnf)
  refine ⟨by simp [markRows_len], _, dms_rows _, ?_⟩
  ((repeat ((conv => whnf); first | refine brT ?_ | refine brF ?_)); conv => whnf)
  refine ⟨_, heldRelation_spec _ R 1 (by omega) (by omega), ?_⟩
  ((repeat ((conv => whnf); first | refine brT ?_ | refine brF ?_)); conv => whnf)
  rw [show ltI (1 + (tot R : Int)) 0 = false by rw [ltI_f]; omega]
  ((repeat ((conv => whnf); first | refine brT ?_ | refine brF ?_)); conv => whnf)
  rw [eqI_refl, show notB true = false by simp [notB]]
  ((repeat ((conv => whnf); first | refine brT ?_ | refine brF ?_)); conv => whnf)
  exact fin rfl
theorem law_join (n : Int) (rows : List (List Int)) (m : Int) (rows' : List (List Int)) (hl : RowsLen rows) (hl' : RowsLen rows') : FSpec env.P 18 [relLV n rows, relLV m rows'] (.bool true) := by
  refine FSpec_of_code (E := env.x [69, 75, 41] 0) env_ok.x (fn := Try.f18) Try.func18 rfl Try.call18 _ _ ?_
  have hR := tot_relRows (P := allP or (relP rows) (relP rows')) (rsN_le2 (n := n) (rows := rows) (m := m) (rows' := rows'))
  generalize hRR : relRows (rsN (alike n rows m rows') rows) (allP or (relP rows) (relP rows')) = R at hR
  generalize hNN : rsN (alike n rows m rows') rows = N
  have hS := spec_join n rows m rows'
  have hI := impl_join n rows m rows'
  rw [hRR, hNN] at hS hI
  have hS := rel_f hS
  have hJ := rel_f hI
  ((repeat ((conv => whnf); first | refine brT ?_ | refine brF ?_)); conv => whnf)
  refine ⟨_, szRelation_spec n rows 1048576, ?_⟩
  by_cases h0 : 0 ≤ szRows 1048576 rows
  rotate_left
  · rw [show ltI (szRows 1048576 rows) 0 = true by rw [ltI_t]; omega]
    ((repeat ((conv => whnf); first | refine brT ?_ | refine brF ?_)); conv => whnf)
    rw [show ltI (-1) 0 = true by rw [ltI_t]; omega]
    ((repeat ((conv => whnf); first | refine brT ?_ | refine brF ?_)); conv => whnf)
    exact fin rfl
  obtain ⟨hb, ht, hlen, hle, hf⟩ := szRows_ok (by omega) (by omega) hl h0
  rw [hf]
  ((repeat ((conv => whnf); first | refine brT ?_ | refine brF ?_)); conv => whnf)
  rw [hf]
  ((repeat ((conv => whnf); first | refine brT ?_ | refine brF ?_)); conv => whnf)
  generalize szRows 1048576 rows = l at h0 hle
  refine ⟨_, szRelation_spec m rows' l, ?_⟩
  by_cases h0' : 0 ≤ szRows l rows'
  rotate_left
  · rw [show ltI (szRows l rows') 0 = true by rw [ltI_t]; omega]
    ((repeat ((conv => whnf); first | refine brT ?_ | refine brF ?_)); conv => whnf)
    rw [show ltI (-1) 0 = true by rw [ltI_t]; omega]
    ((repeat ((conv => whnf); first | refine brT ?_ | refine brF ?_)); conv => whnf)
    exact fin rfl
  obtain ⟨hb', ht', hlen', _, hf'⟩ := szRows_ok h0 hle hl' h0'
  rw [hf']
  ((repeat ((conv => whnf); first | refine brT ?_ | refine brF ?_)); conv => whnf)
  rw [hf']
  ((repeat ((conv => whnf); first | refine brT ?_ | refine brF ?_)); conv => whnf)
  refine ⟨true, by kernel_rfl, ?_⟩
  ((repeat ((conv => whnf); first | refine brT ?_ | refine brF ?_)); conv => whnf)
  refine ⟨_, toRelation_f n rows hb, ?_⟩
  ((repeat ((conv => whnf); first | refine brT ?_ | refine brF ?_)); conv => whnf)
  refine ⟨_, toRelation_f m rows' hb', ?_⟩
  ((repeat ((conv => whnf); first | refine brT ?_ | refine brF ?_)); conv => whnf)
  refine ⟨_, hS, ?_⟩
  ((repeat ((conv => whnf); first | refine brT ?_ | refine brF ?_)); conv => whnf)
  refine ⟨[], _, _, _, _, toRelation_h n rows hb, rfl, rfl, rfl, trivial, ?_⟩
  ((repeat ((conv => whnf); first | refine brT ?_ | refine brF ?_)); conv => whnf)
  refine ⟨[], _, _, _, _, toRelation_h m rows' hb', rfl, rfl, rfl, trivial, ?_⟩
  ((repeat ((conv => whnf); first | refine brT ?_ | refine brF ?_)); conv => whnf)
  refine ⟨[], _, _, _, _, hI, rfl, ?_⟩
  ((repeat ((conv => whnf); first | refine brT ?_ | refine brF ?_)); conv => whnf)
  refine ⟨rfl, _, dms_rows _, ?_⟩
  ((repeat ((conv => whnf); first | refine brT ?_ | refine brF ?_)); conv => whnf)
  refine ⟨rfl, _, dms_rows _, ?_⟩
  ((repeat ((conv => whnf); first | refine brT ?_ | refine brF ?_)); conv => whnf)
  refine ⟨rfl, rfl, ⟨rfl, flatTs_rows _, trivial⟩, ?_⟩
  ((repeat ((conv => whnf); first | refine brT ?_ | refine brF ?_)); conv => whnf)
  refine ⟨rfl, _, dms_rows _, ?_⟩
  ((repeat ((conv => whnf); first | refine brT ?_ | refine brF ?_)); conv => whnf)
  refine ⟨_, eqRelation_spec _ _ _ _, ?_⟩
  rw [eqRel_refl]
  ((repeat ((conv => whnf); first | refine brT ?_ | refine brF ?_)); conv => whnf)
  rw [show notB true = false by simp [notB]]
  ((repeat ((conv => whnf); first | refine brT ?_ | refine brF ?_)); conv => whnf)
  refine ⟨true, by kernel_rfl, ?_⟩
  ((repeat ((conv => whnf); first | refine brT ?_ | refine brF ?_)); conv => whnf)
  refine ⟨_, toRelation_f n rows hb, ?_⟩
  ((repeat ((conv => whnf); first | refine brT ?_ | refine brF ?_)); conv => whnf)
  refine ⟨rfl, _, dms_rows _, ?_⟩
  ((repeat ((conv => whnf); first | refine brT ?_ | refine brF ?_)); conv => whnf)
  refine ⟨_, eqRelation_spec n rows n rows, ?_⟩
  rw [eqRel_refl]
  ((repeat ((conv => whnf); first | refine brT ?_ | refine brF ?_)); conv => whnf)
  rw [show notB true = false by simp [notB]]
  ((repeat ((conv => whnf); first | refine brT ?_ | refine brF ?_)); conv => whnf)
  refine ⟨true, by kernel_rfl, ?_⟩
  ((repeat ((conv => whnf); first | refine brT ?_ | refine brF ?_)); conv => whnf)
  refine ⟨_, toRelation_f m rows' hb', ?_⟩
  ((repeat ((conv => whnf); first | refine brT ?_ | refine brF ?_)); conv => whnf)
  refine ⟨rfl, _, dms_rows _, ?_⟩
  ((repeat ((conv => whnf); first | refine brT ?_ | refine brF ?_)); conv => whnf)
  refine ⟨_, eqRelation_spec m rows' m rows', ?_⟩
  rw [eqRel_refl]
  ((repeat ((conv => whnf); first | refine brT ?_ | refine brF ?_)); conv => whnf)
  rw [show notB true = false by simp [notB]]
  ((repeat ((conv => whnf); first | refine brT ?_ | refine brF ?_)); conv => whnf)
  refine ⟨[3], _, _, _, _, markRelation_spec _ _ _ rfl 1 (by omega) (by omega), rfl, rfl, rfl, trivial, ?_⟩
  ((repeat ((conv => whnf); first | refine brT ?_ | refine brF ?_)); conv => whnf)
  refine ⟨[5], _, _, _, _, markRelation_spec _ rows' _ rfl (1 + tot rows) (by omega) (by omega), rfl, rfl, rfl, trivial, ?_⟩
  ((repeat ((conv => whnf); first | refine brT ?_ | refine brF ?_)); conv => whnf)
  rw [show ltI (1 + (tot rows : Int) + (tot rows' : Int)) 0 = false by rw [ltI_f]; omega]
  ((repeat ((conv => whnf); first | refine brT ?_ | refine brF ?_)); conv => whnf)
  refine ⟨rfl, _, dms_rows _, ?_⟩
  ((repeat ((conv => whnf); first | refine brT ?_ | refine brF ?_)); conv => whnf)
  refine ⟨_, eqRelation_spec _ _ _ _, ?_⟩
  rw [eqRel_refl]
  ((repeat ((conv => whnf); first | refine brT ?_ | refine brF ?_)); conv => whnf)
  rw [show notB true = false by simp [notB]]
  ((repeat ((conv => whnf); first | refine brT ?_ | refine brF ?_)); conv => whnf)
  refine ⟨[7], _, _, _, _, markRelation_spec _ _ _ rfl 1 (by omega) (by omega), rfl, rfl, rfl, trivial, ?_⟩
  ((repeat ((conv => whnf); first | refine brT ?_ | refine brF ?_)); conv => whnf)
  refine ⟨by simp [markRows_len], _, dms_rows _, ?_⟩
  ((repeat ((conv => whnf); first | refine brT ?_ | refine brF ?_)); conv => whnf)
  refine ⟨_, heldRelation_spec _ R 1 (by omega) (by omega), ?_⟩
  ((repeat ((conv => whnf); first | refine brT ?_ | refine brF ?_)); conv => whnf)
  rw [show ltI (1 + (tot R : Int)) 0 = false by rw [ltI_f]; omega]
  ((repeat ((conv => whnf); first | refine brT ?_ | refine brF ?_)); conv => whnf)
  rw [eqI_refl, show notB true = false by simp [notB]]
  ((repeat ((conv => whnf); first | refine brT ?_ | refine brF ?_)); conv => whnf)
  refine ⟨true, by kernel_rfl, ?_⟩
  ((repeat ((conv => whnf); first | refine brT ?_ | refine brF ?_)); conv => whnf)
  refine ⟨_, toRelation_f n rows hb, ?_⟩
  ((repeat ((conv => whnf); first | refine brT ?_ | refine brF ?_)); conv => whnf)
  refine ⟨_, toRelation_f m rows' hb', ?_⟩
  ((repeat ((conv => whnf); first | refine brT ?_ | refine brF ?_)); conv => whnf)
  refine ⟨_, hJ, ?_⟩
  ((repeat ((conv => whnf); first | refine brT ?_ | refine brF ?_)); conv => whnf)
  refine ⟨_, eqRelation_spec _ _ _ _, ?_⟩
  rw [eqRel_refl]
  ((repeat ((conv => whnf); first | refine brT ?_ | refine brF ?_)); conv => whnf)
  rw [show notB true = false by simp [notB]]
  ((repeat ((conv => whnf); first | refine brT ?_ | refine brF ?_)); conv => whnf)
  refine ⟨by simp [markRows_len], _, dms_rows _, ?_⟩
  ((repeat ((conv => whnf); first | refine brT ?_ | refine brF ?_)); conv => whnf)
  refine ⟨_, heldRelation_spec _ R 1 (by omega) (by omega), ?_⟩
  ((repeat ((conv => whnf); first | refine brT ?_ | refine brF ?_)); conv => whnf)
  rw [show ltI (1 + (tot R : Int)) 0 = false by rw [ltI_f]; omega]
  ((repeat ((conv => whnf); first | refine brT ?_ | refine brF ?_)); conv => whnf)
  rw [eqI_refl, show notB true = false by simp [notB]]
  ((repeat ((conv => whnf); first | refine brT ?_ | refine brF ?_)); conv => whnf)
  exact fin rfl
theorem law_meet (n : Int) (rows : List (List Int)) (m : Int) (rows' : List (List Int)) (hl : RowsLen rows) (hl' : RowsLen rows') : FSpec env.P 19 [relLV n rows, relLV m rows'] (.bool true) := by
  refine FSpec_of_code (E := env.x [69, 75, 38] 0) env_ok.x (fn := Try.f19) Try.func19 rfl Try.call19 _ _ ?_
  have hR := tot_relRows (P := allP and (relP rows) (relP rows')) (rsN_le2 (n := n) (rows := rows) (m := m) (rows' := rows'))
  generalize hRR : relRows (rsN (alike n rows m rows') rows) (allP and (relP rows) (relP rows')) = R at hR
  generalize hNN : rsN (alike n rows m rows') rows = N
  have hS := spec_meet n rows m rows'
  have hI := impl_meet n rows m rows'
  rw [hRR, hNN] at hS hI
  have hS := rel_f hS
  have hJ := rel_f hI
  ((repeat ((conv => whnf); first | refine brT ?_ | refine brF ?_)); conv => whnf)
  refine ⟨_, szRelation_spec n rows 1048576, ?_⟩
  by_cases h0 : 0 ≤ szRows 1048576 rows
  rotate_left
  · rw [show ltI (szRows 1048576 rows) 0 = true by rw [ltI_t]; omega]
    ((repeat ((conv => whnf); first | refine brT ?_ | refine brF ?_)); conv => whnf)
    rw [show ltI (-1) 0 = true by rw [ltI_t]; omega]
    ((repeat ((conv => whnf); first | refine brT ?_ | refine brF ?_)); conv => whnf)
    exact fin rfl
  obtain ⟨hb, ht, hlen, hle, hf⟩ := szRows_ok (by omega) (by omega) hl h0
  rw [hf]
  ((repeat ((conv => whnf); first | refine brT ?_ | refine brF ?_)); conv => whnf)
  rw [hf]
  ((repeat ((conv => whnf); first | refine brT ?_ | refine brF ?_)); conv => whnf)
  generalize szRows 1048576 rows = l at h0 hle
  refine ⟨_, szRelation_spec m rows' l, ?_⟩
  by_cases h0' : 0 ≤ szRows l rows'
  rotate_left
  · rw [show ltI (szRows l rows') 0 = true by rw [ltI_t]; omega]
    ((repeat ((conv => whnf); first | refine brT ?_ | refine brF ?_)); conv => whnf)
    rw [show ltI (-1) 0 = true by rw [ltI_t]; omega]
    ((repeat ((conv => whnf); first | refine brT ?_ | refine brF ?_)); conv => whnf)
    exact fin rfl
  obtain ⟨hb', ht', hlen', _, hf'⟩ := szRows_ok h0 hle hl' h0'
  rw [hf']
  ((repeat ((conv => whnf); first | refine brT ?_ | refine brF ?_)); conv => whnf)
  rw [hf']
  ((repeat ((conv => whnf); first | refine brT ?_ | refine brF ?_)); conv => whnf)
  refine ⟨true, by kernel_rfl, ?_⟩
  ((repeat ((conv => whnf); first | refine brT ?_ | refine brF ?_)); conv => whnf)
  refine ⟨_, toRelation_f n rows hb, ?_⟩
  ((repeat ((conv => whnf); first | refine brT ?_ | refine brF ?_)); conv => whnf)
  refine ⟨_, toRelation_f m rows' hb', ?_⟩
  ((repeat ((conv => whnf); first | refine brT ?_ | refine brF ?_)); conv => whnf)
  refine ⟨_, hS, ?_⟩
  ((repeat ((conv => whnf); first | refine brT ?_ | refine brF ?_)); conv => whnf)
  refine ⟨[], _, _, _, _, toRelation_h n rows hb, rfl, rfl, rfl, trivial, ?_⟩
  ((repeat ((conv => whnf); first | refine brT ?_ | refine brF ?_)); conv => whnf)
  refine ⟨[], _, _, _, _, toRelation_h m rows' hb', rfl, rfl, rfl, trivial, ?_⟩
  ((repeat ((conv => whnf); first | refine brT ?_ | refine brF ?_)); conv => whnf)
  refine ⟨[], _, _, _, _, hI, rfl, ?_⟩
  ((repeat ((conv => whnf); first | refine brT ?_ | refine brF ?_)); conv => whnf)
  refine ⟨rfl, _, dms_rows _, ?_⟩
  ((repeat ((conv => whnf); first | refine brT ?_ | refine brF ?_)); conv => whnf)
  refine ⟨rfl, _, dms_rows _, ?_⟩
  ((repeat ((conv => whnf); first | refine brT ?_ | refine brF ?_)); conv => whnf)
  refine ⟨rfl, rfl, ⟨rfl, flatTs_rows _, trivial⟩, ?_⟩
  ((repeat ((conv => whnf); first | refine brT ?_ | refine brF ?_)); conv => whnf)
  refine ⟨rfl, _, dms_rows _, ?_⟩
  ((repeat ((conv => whnf); first | refine brT ?_ | refine brF ?_)); conv => whnf)
  refine ⟨_, eqRelation_spec _ _ _ _, ?_⟩
  rw [eqRel_refl]
  ((repeat ((conv => whnf); first | refine brT ?_ | refine brF ?_)); conv => whnf)
  rw [show notB true = false by simp [notB]]
  ((repeat ((conv => whnf); first | refine brT ?_ | refine brF ?_)); conv => whnf)
  refine ⟨true, by kernel_rfl, ?_⟩
  ((repeat ((conv => whnf); first | refine brT ?_ | refine brF ?_)); conv => whnf)
  refine ⟨_, toRelation_f n rows hb, ?_⟩
  ((repeat ((conv => whnf); first | refine brT ?_ | refine brF ?_)); conv => whnf)
  refine ⟨rfl, _, dms_rows _, ?_⟩
  ((repeat ((conv => whnf); first | refine brT ?_ | refine brF ?_)); conv => whnf)
  refine ⟨_, eqRelation_spec n rows n rows, ?_⟩
  rw [eqRel_refl]
  ((repeat ((conv => whnf); first | refine brT ?_ | refine brF ?_)); conv => whnf)
  rw [show notB true = false by simp [notB]]
  ((repeat ((conv => whnf); first | refine brT ?_ | refine brF ?_)); conv => whnf)
  refine ⟨true, by kernel_rfl, ?_⟩
  ((repeat ((conv => whnf); first | refine brT ?_ | refine brF ?_)); conv => whnf)
  refine ⟨_, toRelation_f m rows' hb', ?_⟩
  ((repeat ((conv => whnf); first | refine brT ?_ | refine brF ?_)); conv => whnf)
  refine ⟨rfl, _, dms_rows _, ?_⟩
  ((repeat ((conv => whnf); first | refine brT ?_ | refine brF ?_)); conv => whnf)
  refine ⟨_, eqRelation_spec m rows' m rows', ?_⟩
  rw [eqRel_refl]
  ((repeat ((conv => whnf); first | refine brT ?_ | refine brF ?_)); conv => whnf)
  rw [show notB true = false by simp [notB]]
  ((repeat ((conv => whnf); first | refine brT ?_ | refine brF ?_)); conv => whnf)
  refine ⟨[3], _, _, _, _, markRelation_spec _ _ _ rfl 1 (by omega) (by omega), rfl, rfl, rfl, trivial, ?_⟩
  ((repeat ((conv => whnf); first | refine brT ?_ | refine brF ?_)); conv => whnf)
  refine ⟨[5], _, _, _, _, markRelation_spec _ rows' _ rfl (1 + tot rows) (by omega) (by omega), rfl, rfl, rfl, trivial, ?_⟩
  ((repeat ((conv => whnf); first | refine brT ?_ | refine brF ?_)); conv => whnf)
  rw [show ltI (1 + (tot rows : Int) + (tot rows' : Int)) 0 = false by rw [ltI_f]; omega]
  ((repeat ((conv => whnf); first | refine brT ?_ | refine brF ?_)); conv => whnf)
  refine ⟨rfl, _, dms_rows _, ?_⟩
  ((repeat ((conv => whnf); first | refine brT ?_ | refine brF ?_)); conv => whnf)
  refine ⟨_, eqRelation_spec _ _ _ _, ?_⟩
  rw [eqRel_refl]
  ((repeat ((conv => whnf); first | refine brT ?_ | refine brF ?_)); conv => whnf)
  rw [show notB true = false by simp [notB]]
  ((repeat ((conv => whnf); first | refine brT ?_ | refine brF ?_)); conv => whnf)
  refine ⟨[7], _, _, _, _, markRelation_spec _ _ _ rfl 1 (by omega) (by omega), rfl, rfl, rfl, trivial, ?_⟩
  ((repeat ((conv => whnf); first | refine brT ?_ | refine brF ?_)); conv => whnf)
  refine ⟨by simp [markRows_len], _, dms_rows _, ?_⟩
  ((repeat ((conv => whnf); first | refine brT ?_ | refine brF ?_)); conv => whnf)
  refine ⟨_, heldRelation_spec _ R 1 (by omega) (by omega), ?_⟩
  ((repeat ((conv => whnf); first | refine brT ?_ | refine brF ?_)); conv => whnf)
  rw [show ltI (1 + (tot R : Int)) 0 = false by rw [ltI_f]; omega]
  ((repeat ((conv => whnf); first | refine brT ?_ | refine brF ?_)); conv => whnf)
  rw [eqI_refl, show notB true = false by simp [notB]]
  ((repeat ((conv => whnf); first | refine brT ?_ | refine brF ?_)); conv => whnf)
  refine ⟨true, by kernel_rfl, ?_⟩
  ((repeat ((conv => whnf); first | refine brT ?_ | refine brF ?_)); conv => whnf)
  refine ⟨_, toRelation_f n rows hb, ?_⟩
  ((repeat ((conv => whnf); first | refine brT ?_ | refine brF ?_)); conv => whnf)
  refine ⟨_, toRelation_f m rows' hb', ?_⟩
  ((repeat ((conv => whnf); first | refine brT ?_ | refine brF ?_)); conv => whnf)
  refine ⟨_, hJ, ?_⟩
  ((repeat ((conv => whnf); first | refine brT ?_ | refine brF ?_)); conv => whnf)
  refine ⟨_, eqRelation_spec _ _ _ _, ?_⟩
  rw [eqRel_refl]
  ((repeat ((conv => whnf); first | refine brT ?_ | refine brF ?_)); conv => whnf)
  rw [show notB true = false by simp [notB]]
  ((repeat ((conv => whnf); first | refine brT ?_ | refine brF ?_)); conv => whnf)
  refine ⟨by simp [markRows_len], _, dms_rows _, ?_⟩
  ((repeat ((conv => whnf); first | refine brT ?_ | refine brF ?_)); conv => whnf)
  refine ⟨_, heldRelation_spec _ R 1 (by omega) (by omega), ?_⟩
  ((repeat ((conv => whnf); first | refine brT ?_ | refine brF ?_)); conv => whnf)
  rw [show ltI (1 + (tot R : Int)) 0 = false by rw [ltI_f]; omega]
  ((repeat ((conv => whnf); first | refine brT ?_ | refine brF ?_)); conv => whnf)
  rw [eqI_refl, show notB true = false by simp [notB]]
  ((repeat ((conv => whnf); first | refine brT ?_ | refine brF ?_)); conv => whnf)
  exact fin rfl
theorem law_less (n : Int) (rows : List (List Int)) (m : Int) (rows' : List (List Int)) (hl : RowsLen rows) (hl' : RowsLen rows') : FSpec env.P 20 [relLV n rows, relLV m rows'] (.bool true) := by
  refine FSpec_of_code (E := env.x [69, 75, 44] 0) env_ok.x (fn := Try.f20) Try.func20 rfl Try.call20 _ _ ?_
  have hR := tot_relRows (P := allP (fun x y => x && !y) (relP rows) (relP rows')) (rsN_le2 (n := n) (rows := rows) (m := m) (rows' := rows'))
  generalize hRR : relRows (rsN (alike n rows m rows') rows) (allP (fun x y => x && !y) (relP rows) (relP rows')) = R at hR
  generalize hNN : rsN (alike n rows m rows') rows = N
  have hS := spec_less n rows m rows'
  have hI := impl_less n rows m rows'
  rw [hRR, hNN] at hS hI
  have hS := rel_f hS
  have hJ := rel_f hI
  ((repeat ((conv => whnf); first | refine brT ?_ | refine brF ?_)); conv => whnf)
  refine ⟨_, szRelation_spec n rows 1048576, ?_⟩
  by_cases h0 : 0 ≤ szRows 1048576 rows
  rotate_left
  · rw [show ltI (szRows 1048576 rows) 0 = true by rw [ltI_t]; omega]
    ((repeat ((conv => whnf); first | refine brT ?_ | refine brF ?_)); conv => whnf)
    rw [show ltI (-1) 0 = true by rw [ltI_t]; omega]
    ((repeat ((conv => whnf); first | refine brT ?_ | refine brF ?_)); conv => whnf)
    exact fin rfl
  obtain ⟨hb, ht, hlen, hle, hf⟩ := szRows_ok (by omega) (by omega) hl h0
  rw [hf]
  ((repeat ((conv => whnf); first | refine brT ?_ | refine brF ?_)); conv => whnf)
  rw [hf]
  ((repeat ((conv => whnf); first | refine brT ?_ | refine brF ?_)); conv => whnf)
  generalize szRows 1048576 rows = l at h0 hle
  refine ⟨_, szRelation_spec m rows' l, ?_⟩
  by_cases h0' : 0 ≤ szRows l rows'
  rotate_left
  · rw [show ltI (szRows l rows') 0 = true by rw [ltI_t]; omega]
    ((repeat ((conv => whnf); first | refine brT ?_ | refine brF ?_)); conv => whnf)
    rw [show ltI (-1) 0 = true by rw [ltI_t]; omega]
    ((repeat ((conv => whnf); first | refine brT ?_ | refine brF ?_)); conv => whnf)
    exact fin rfl
  obtain ⟨hb', ht', hlen', _, hf'⟩ := szRows_ok h0 hle hl' h0'
  rw [hf']
  ((repeat ((conv => whnf); first | refine brT ?_ | refine brF ?_)); conv => whnf)
  rw [hf']
  ((repeat ((conv => whnf); first | refine brT ?_ | refine brF ?_)); conv => whnf)
  refine ⟨true, by kernel_rfl, ?_⟩
  ((repeat ((conv => whnf); first | refine brT ?_ | refine brF ?_)); conv => whnf)
  refine ⟨_, toRelation_f n rows hb, ?_⟩
  ((repeat ((conv => whnf); first | refine brT ?_ | refine brF ?_)); conv => whnf)
  refine ⟨_, toRelation_f m rows' hb', ?_⟩
  ((repeat ((conv => whnf); first | refine brT ?_ | refine brF ?_)); conv => whnf)
  refine ⟨_, hS, ?_⟩
  ((repeat ((conv => whnf); first | refine brT ?_ | refine brF ?_)); conv => whnf)
  refine ⟨[], _, _, _, _, toRelation_h n rows hb, rfl, rfl, rfl, trivial, ?_⟩
  ((repeat ((conv => whnf); first | refine brT ?_ | refine brF ?_)); conv => whnf)
  refine ⟨[], _, _, _, _, toRelation_h m rows' hb', rfl, rfl, rfl, trivial, ?_⟩
  ((repeat ((conv => whnf); first | refine brT ?_ | refine brF ?_)); conv => whnf)
  refine ⟨[], _, _, _, _, hI, rfl, ?_⟩
  ((repeat ((conv => whnf); first | refine brT ?_ | refine brF ?_)); conv => whnf)
  refine ⟨rfl, _, dms_rows _, ?_⟩
  ((repeat ((conv => whnf); first | refine brT ?_ | refine brF ?_)); conv => whnf)
  refine ⟨rfl, _, dms_rows _, ?_⟩
  ((repeat ((conv => whnf); first | refine brT ?_ | refine brF ?_)); conv => whnf)
  refine ⟨rfl, rfl, ⟨rfl, flatTs_rows _, trivial⟩, ?_⟩
  ((repeat ((conv => whnf); first | refine brT ?_ | refine brF ?_)); conv => whnf)
  refine ⟨rfl, _, dms_rows _, ?_⟩
  ((repeat ((conv => whnf); first | refine brT ?_ | refine brF ?_)); conv => whnf)
  refine ⟨_, eqRelation_spec _ _ _ _, ?_⟩
  rw [eqRel_refl]
  ((repeat ((conv => whnf); first | refine brT ?_ | refine brF ?_)); conv => whnf)
  rw [show notB true = false by simp [notB]]
  ((repeat ((conv => whnf); first | refine brT ?_ | refine brF ?_)); conv => whnf)
  refine ⟨true, by kernel_rfl, ?_⟩
  ((repeat ((conv => whnf); first | refine brT ?_ | refine brF ?_)); conv => whnf)
  refine ⟨_, toRelation_f n rows hb, ?_⟩
  ((repeat ((conv => whnf); first | refine brT ?_ | refine brF ?_)); conv => whnf)
  refine ⟨rfl, _, dms_rows _, ?_⟩
  ((repeat ((conv => whnf); first | refine brT ?_ | refine brF ?_)); conv => whnf)
  refine ⟨_, eqRelation_spec n rows n rows, ?_⟩
  rw [eqRel_refl]
  ((repeat ((conv => whnf); first | refine brT ?_ | refine brF ?_)); conv => whnf)
  rw [show notB true = false by simp [notB]]
  ((repeat ((conv => whnf); first | refine brT ?_ | refine brF ?_)); conv => whnf)
  refine ⟨true, by kernel_rfl, ?_⟩
  ((repeat ((conv => whnf); first | refine brT ?_ | refine brF ?_)); conv => whnf)
  refine ⟨_, toRelation_f m rows' hb', ?_⟩
  ((repeat ((conv => whnf); first | refine brT ?_ | refine brF ?_)); conv => whnf)
  refine ⟨rfl, _, dms_rows _, ?_⟩
  ((repeat ((conv => whnf); first | refine brT ?_ | refine brF ?_)); conv => whnf)
  refine ⟨_, eqRelation_spec m rows' m rows', ?_⟩
  rw [eqRel_refl]
  ((repeat ((conv => whnf); first | refine brT ?_ | refine brF ?_)); conv => whnf)
  rw [show notB true = false by simp [notB]]
  ((repeat ((conv => whnf); first | refine brT ?_ | refine brF ?_)); conv => whnf)
  refine ⟨[3], _, _, _, _, markRelation_spec _ _ _ rfl 1 (by omega) (by omega), rfl, rfl, rfl, trivial, ?_⟩
  ((repeat ((conv => whnf); first | refine brT ?_ | refine brF ?_)); conv => whnf)
  refine ⟨[5], _, _, _, _, markRelation_spec _ rows' _ rfl (1 + tot rows) (by omega) (by omega), rfl, rfl, rfl, trivial, ?_⟩
  ((repeat ((conv => whnf); first | refine brT ?_ | refine brF ?_)); conv => whnf)
  rw [show ltI (1 + (tot rows : Int) + (tot rows' : Int)) 0 = false by rw [ltI_f]; omega]
  ((repeat ((conv => whnf); first | refine brT ?_ | refine brF ?_)); conv => whnf)
  refine ⟨rfl, _, dms_rows _, ?_⟩
  ((repeat ((conv => whnf); first | refine brT ?_ | refine brF ?_)); conv => whnf)
  refine ⟨_, eqRelation_spec _ _ _ _, ?_⟩
  rw [eqRel_refl]
  ((repeat ((conv => whnf); first | refine brT ?_ | refine brF ?_)); conv => whnf)
  rw [show notB true = false by simp [notB]]
  ((repeat ((conv => whnf); first | refine brT ?_ | refine brF ?_)); conv => whnf)
  refine ⟨[7], _, _, _, _, markRelation_spec _ _ _ rfl 1 (by omega) (by omega), rfl, rfl, rfl, trivial, ?_⟩
  ((repeat ((conv => whnf); first | refine brT ?_ | refine brF ?_)); conv => whnf)
  refine ⟨by simp [markRows_len], _, dms_rows _, ?_⟩
  ((repeat ((conv => whnf); first | refine brT ?_ | refine brF ?_)); conv => whnf)
  refine ⟨_, heldRelation_spec _ R 1 (by omega) (by omega), ?_⟩
  ((repeat ((conv => whnf); first | refine brT ?_ | refine brF ?_)); conv => whnf)
  rw [show ltI (1 + (tot R : Int)) 0 = false by rw [ltI_f]; omega]
  ((repeat ((conv => whnf); first | refine brT ?_ | refine brF ?_)); conv => whnf)
  rw [eqI_refl, show notB true = false by simp [notB]]
  ((repeat ((conv => whnf); first | refine brT ?_ | refine brF ?_)); conv => whnf)
  refine ⟨true, by kernel_rfl, ?_⟩
  ((repeat ((conv => whnf); first | refine brT ?_ | refine brF ?_)); conv => whnf)
  refine ⟨_, toRelation_f n rows hb, ?_⟩
  ((repeat ((conv => whnf); first | refine brT ?_ | refine brF ?_)); conv => whnf)
  refine ⟨_, toRelation_f m rows' hb', ?_⟩
  ((repeat ((conv => whnf); first | refine brT ?_ | refine brF ?_)); conv => whnf)
  refine ⟨_, hJ, ?_⟩
  ((repeat ((conv => whnf); first | refine brT ?_ | refine brF ?_)); conv => whnf)
  refine ⟨_, eqRelation_spec _ _ _ _, ?_⟩
  rw [eqRel_refl]
  ((repeat ((conv => whnf); first | refine brT ?_ | refine brF ?_)); conv => whnf)
  rw [show notB true = false by simp [notB]]
  ((repeat ((conv => whnf); first | refine brT ?_ | refine brF ?_)); conv => whnf)
  refine ⟨by simp [markRows_len], _, dms_rows _, ?_⟩
  ((repeat ((conv => whnf); first | refine brT ?_ | refine brF ?_)); conv => whnf)
  refine ⟨_, heldRelation_spec _ R 1 (by omega) (by omega), ?_⟩
  ((repeat ((conv => whnf); first | refine brT ?_ | refine brF ?_)); conv => whnf)
  rw [show ltI (1 + (tot R : Int)) 0 = false by rw [ltI_f]; omega]
  ((repeat ((conv => whnf); first | refine brT ?_ | refine brF ?_)); conv => whnf)
  rw [eqI_refl, show notB true = false by simp [notB]]
  ((repeat ((conv => whnf); first | refine brT ?_ | refine brF ?_)); conv => whnf)
  exact fin rfl
theorem law_compose (n : Int) (rows : List (List Int)) (m : Int) (rows' : List (List Int)) (hl : RowsLen rows) (hl' : RowsLen rows') : FSpec env.P 21 [relLV n rows, relLV m rows'] (.bool true) := by
  refine FSpec_of_code (E := env.x [69, 75, 37] 0) env_ok.x (fn := Try.f21) Try.func21 rfl Try.call21 _ _ ?_
  have hR := tot_relRows (P := compP rows.length (relP rows) (relP rows')) (rsN_le2 (n := n) (rows := rows) (m := m) (rows' := rows'))
  generalize hRR : relRows (rsN (alike n rows m rows') rows) (compP rows.length (relP rows) (relP rows')) = R at hR
  generalize hNN : rsN (alike n rows m rows') rows = N
  have hS := specCompose_f n rows m rows'
  have hI := implCompose_h n rows m rows'
  rw [hRR, hNN] at hS hI
  have hJ := rel_f hI
  ((repeat ((conv => whnf); first | refine brT ?_ | refine brF ?_)); conv => whnf)
  refine ⟨_, szRelation_spec n rows 1048576, ?_⟩
  by_cases h0 : 0 ≤ szRows 1048576 rows
  rotate_left
  · rw [show ltI (szRows 1048576 rows) 0 = true by rw [ltI_t]; omega]
    ((repeat ((conv => whnf); first | refine brT ?_ | refine brF ?_)); conv => whnf)
    rw [show ltI (-1) 0 = true by rw [ltI_t]; omega]
    ((repeat ((conv => whnf); first | refine brT ?_ | refine brF ?_)); conv => whnf)
    exact fin rfl
  obtain ⟨hb, ht, hlen, hle, hf⟩ := szRows_ok (by omega) (by omega) hl h0
  rw [hf]
  ((repeat ((conv => whnf); first | refine brT ?_ | refine brF ?_)); conv => whnf)
  rw [hf]
  ((repeat ((conv => whnf); first | refine brT ?_ | refine brF ?_)); conv => whnf)
  generalize szRows 1048576 rows = l at h0 hle
  refine ⟨_, szRelation_spec m rows' l, ?_⟩
  by_cases h0' : 0 ≤ szRows l rows'
  rotate_left
  · rw [show ltI (szRows l rows') 0 = true by rw [ltI_t]; omega]
    ((repeat ((conv => whnf); first | refine brT ?_ | refine brF ?_)); conv => whnf)
    rw [show ltI (-1) 0 = true by rw [ltI_t]; omega]
    ((repeat ((conv => whnf); first | refine brT ?_ | refine brF ?_)); conv => whnf)
    exact fin rfl
  obtain ⟨hb', ht', hlen', _, hf'⟩ := szRows_ok h0 hle hl' h0'
  rw [hf']
  ((repeat ((conv => whnf); first | refine brT ?_ | refine brF ?_)); conv => whnf)
  rw [hf']
  ((repeat ((conv => whnf); first | refine brT ?_ | refine brF ?_)); conv => whnf)
  refine ⟨true, by kernel_rfl, ?_⟩
  ((repeat ((conv => whnf); first | refine brT ?_ | refine brF ?_)); conv => whnf)
  refine ⟨_, toRelation_f n rows hb, ?_⟩
  ((repeat ((conv => whnf); first | refine brT ?_ | refine brF ?_)); conv => whnf)
  refine ⟨_, toRelation_f m rows' hb', ?_⟩
  ((repeat ((conv => whnf); first | refine brT ?_ | refine brF ?_)); conv => whnf)
  refine ⟨_, hS, ?_⟩
  ((repeat ((conv => whnf); first | refine brT ?_ | refine brF ?_)); conv => whnf)
  refine ⟨[], _, _, _, _, toRelation_h n rows hb, rfl, rfl, rfl, trivial, ?_⟩
  ((repeat ((conv => whnf); first | refine brT ?_ | refine brF ?_)); conv => whnf)
  refine ⟨[], _, _, _, _, toRelation_h m rows' hb', rfl, rfl, rfl, trivial, ?_⟩
  ((repeat ((conv => whnf); first | refine brT ?_ | refine brF ?_)); conv => whnf)
  refine ⟨[], _, _, _, _, hI, rfl, ?_⟩
  ((repeat ((conv => whnf); first | refine brT ?_ | refine brF ?_)); conv => whnf)
  refine ⟨rfl, _, dms_rows _, ?_⟩
  ((repeat ((conv => whnf); first | refine brT ?_ | refine brF ?_)); conv => whnf)
  refine ⟨rfl, _, dms_rows _, ?_⟩
  ((repeat ((conv => whnf); first | refine brT ?_ | refine brF ?_)); conv => whnf)
  refine ⟨rfl, rfl, ⟨rfl, flatTs_rows _, trivial⟩, ?_⟩
  ((repeat ((conv => whnf); first | refine brT ?_ | refine brF ?_)); conv => whnf)
  refine ⟨rfl, _, dms_rows _, ?_⟩
  ((repeat ((conv => whnf); first | refine brT ?_ | refine brF ?_)); conv => whnf)
  refine ⟨_, eqRelation_spec _ _ _ _, ?_⟩
  rw [eqRel_refl]
  ((repeat ((conv => whnf); first | refine brT ?_ | refine brF ?_)); conv => whnf)
  rw [show notB true = false by simp [notB]]
  ((repeat ((conv => whnf); first | refine brT ?_ | refine brF ?_)); conv => whnf)
  refine ⟨true, by kernel_rfl, ?_⟩
  ((repeat ((conv => whnf); first | refine brT ?_ | refine brF ?_)); conv => whnf)
  refine ⟨_, toRelation_f n rows hb, ?_⟩
  ((repeat ((conv => whnf); first | refine brT ?_ | refine brF ?_)); conv => whnf)
  refine ⟨rfl, _, dms_rows _, ?_⟩
  ((repeat ((conv => whnf); first | refine brT ?_ | refine brF ?_)); conv => whnf)
  refine ⟨_, eqRelation_spec n rows n rows, ?_⟩
  rw [eqRel_refl]
  ((repeat ((conv => whnf); first | refine brT ?_ | refine brF ?_)); conv => whnf)
  rw [show notB true = false by simp [notB]]
  ((repeat ((conv => whnf); first | refine brT ?_ | refine brF ?_)); conv => whnf)
  refine ⟨true, by kernel_rfl, ?_⟩
  ((repeat ((conv => whnf); first | refine brT ?_ | refine brF ?_)); conv => whnf)
  refine ⟨_, toRelation_f m rows' hb', ?_⟩
  ((repeat ((conv => whnf); first | refine brT ?_ | refine brF ?_)); conv => whnf)
  refine ⟨rfl, _, dms_rows _, ?_⟩
  ((repeat ((conv => whnf); first | refine brT ?_ | refine brF ?_)); conv => whnf)
  refine ⟨_, eqRelation_spec m rows' m rows', ?_⟩
  rw [eqRel_refl]
  ((repeat ((conv => whnf); first | refine brT ?_ | refine brF ?_)); conv => whnf)
  rw [show notB true = false by simp [notB]]
  ((repeat ((conv => whnf); first | refine brT ?_ | refine brF ?_)); conv => whnf)
  refine ⟨[3], _, _, _, _, markRelation_spec _ _ _ rfl 1 (by omega) (by omega), rfl, rfl, rfl, trivial, ?_⟩
  ((repeat ((conv => whnf); first | refine brT ?_ | refine brF ?_)); conv => whnf)
  refine ⟨[5], _, _, _, _, markRelation_spec _ rows' _ rfl (1 + tot rows) (by omega) (by omega), rfl, rfl, rfl, trivial, ?_⟩
  ((repeat ((conv => whnf); first | refine brT ?_ | refine brF ?_)); conv => whnf)
  rw [show ltI (1 + (tot rows : Int) + (tot rows' : Int)) 0 = false by rw [ltI_f]; omega]
  ((repeat ((conv => whnf); first | refine brT ?_ | refine brF ?_)); conv => whnf)
  refine ⟨rfl, _, dms_rows _, ?_⟩
  ((repeat ((conv => whnf); first | refine brT ?_ | refine brF ?_)); conv => whnf)
  refine ⟨_, eqRelation_spec _ _ _ _, ?_⟩
  rw [eqRel_refl]
  ((repeat ((conv => whnf); first | refine brT ?_ | refine brF ?_)); conv => whnf)
  rw [show notB true = false by simp [notB]]
  ((repeat ((conv => whnf); first | refine brT ?_ | refine brF ?_)); conv => whnf)
  refine ⟨[7], _, _, _, _, markRelation_spec _ _ _ rfl 1 (by omega) (by omega), rfl, rfl, rfl, trivial, ?_⟩
  ((repeat ((conv => whnf); first | refine brT ?_ | refine brF ?_)); conv => whnf)
  refine ⟨by simp [markRows_len], _, dms_rows _, ?_⟩
  ((repeat ((conv => whnf); first | refine brT ?_ | refine brF ?_)); conv => whnf)
  refine ⟨_, heldRelation_spec _ R 1 (by omega) (by omega), ?_⟩
  ((repeat ((conv => whnf); first | refine brT ?_ | refine brF ?_)); conv => whnf)
  rw [show ltI (1 + (tot R : Int)) 0 = false by rw [ltI_f]; omega]
  ((repeat ((conv => whnf); first | refine brT ?_ | refine brF ?_)); conv => whnf)
  rw [eqI_refl, show notB true = false by simp [notB]]
  ((repeat ((conv => whnf); first | refine brT ?_ | refine brF ?_)); conv => whnf)
  refine ⟨true, by kernel_rfl, ?_⟩
  ((repeat ((conv => whnf); first | refine brT ?_ | refine brF ?_)); conv => whnf)
  refine ⟨_, toRelation_f n rows hb, ?_⟩
  ((repeat ((conv => whnf); first | refine brT ?_ | refine brF ?_)); conv => whnf)
  refine ⟨_, toRelation_f m rows' hb', ?_⟩
  ((repeat ((conv => whnf); first | refine brT ?_ | refine brF ?_)); conv => whnf)
  refine ⟨_, hJ, ?_⟩
  ((repeat ((conv => whnf); first | refine brT ?_ | refine brF ?_)); conv => whnf)
  refine ⟨_, eqRelation_spec _ _ _ _, ?_⟩
  rw [eqRel_refl]
  ((repeat ((conv => whnf); first | refine brT ?_ | refine brF ?_)); conv => whnf)
  rw [show notB true = false by simp [notB]]
  ((repeat ((conv => whnf); first | refine brT ?_ | refine brF ?_)); conv => whnf)
  refine ⟨by simp [markRows_len], _, dms_rows _, ?_⟩
  ((repeat ((conv => whnf); first | refine brT ?_ | refine brF ?_)); conv => whnf)
  refine ⟨_, heldRelation_spec _ R 1 (by omega) (by omega), ?_⟩
  ((repeat ((conv => whnf); first | refine brT ?_ | refine brF ?_)); conv => whnf)
  rw [show ltI (1 + (tot R : Int)) 0 = false by rw [ltI_f]; omega]
  ((repeat ((conv => whnf); first | refine brT ?_ | refine brF ?_)); conv => whnf)
  rw [eqI_refl, show notB true = false by simp [notB]]
  ((repeat ((conv => whnf); first | refine brT ?_ | refine brF ?_)); conv => whnf)
  exact fin rfl
end Go.Proofs.Ytfdjeflnjciloaa

namespace Go.Proofs.Ytfdjeflnjciloaa
open Go.Lg
set_option maxHeartbeats 1600000
set_option maxRecDepth 10000
set_option linter.unusedVariables false
set_option linter.unusedSimpArgs false

theorem toPair_spec (p : Pr) : FSpec env.P 158 [p.lv] p.lv := by
  refine FSpec_of_code env_ok (fn := Try.f158) Try.func158 rfl Try.call158 _ _ ?_
  ((repeat ((conv => whnf); first | refine brT ?_ | refine brF ?_)); conv => whnf)
  refine ⟨_, rfl, rfl, ?_⟩
  repeat ((conv => whnf); refine ⟨rfl, ?_⟩)
  exact List.nodup_nil
def zPr : LV := .st [.int .i64 0, .int .i64 0]
theorem toPairS_h (ps : List Pr) (hb : 16 * ps.length ≤ 281474976710656) : HSpec env.P 80 [.sl (ps.map Pr.lv)] [] (.hs 0 (ps.map Pr.lv).length) [.arr 109 2 (ps.map Pr.lv)] := by
  refine HSpec_of_code (E := env.x [] 0) env_ok.x (fn := Try.f80) Try.func80 rfl Try.call80 _ _ _ _ ?_
  ((repeat ((conv => whnf); first | refine brT ?_ | refine brF ?_)); conv => whnf)
  intro hp
  have hp' : ps.length ≤ Go.maxLen := by simpa using hp
  ((repeat ((conv => whnf); first | refine brT ?_ | refine brF ?_)); conv => whnf)
  refine ⟨ps.length, by simp, by simp, hb, hp', rfl, by decide, ?_⟩
  ((repeat ((conv => whnf); first | refine brT ?_ | refine brF ?_)); conv => whnf)
  refine loop_rule (α := Nat) (fun k => [(4, .int .i64 (k : Int))]) (fun k => [.arr 109 2 (fillLV Pr.lv zPr ps k)]) (fun k => ps.length - k) (fun k => k ≤ ps.length) 0 (Nat.zero_le _) ?_ ?_
  · refine ⟨?_, ⟨by simp [zPr, fillLV], trivial⟩, rfl, rfl⟩
    ((repeat ((conv => whnf); refine ⟨rfl, ?_⟩)); trivial)
  rintro k hk
  ((repeat ((conv => whnf); first | refine brT ?_ | refine brF ?_)); conv => whnf)
  intro _
  ((repeat ((conv => whnf); first | refine brT ?_ | refine brF ?_)); conv => whnf)
  (refine ⟨fun h1 => ?_, fun h1 => ?_⟩ <;> rw [h1])
  · have hlt : k < ps.length := by rw [ltI_t] at h1; simp at h1; omega
    ((repeat ((conv => whnf); first | refine brT ?_ | refine brF ?_)); conv => whnf)
    refine ⟨k, ps[k].lv, rfl, by simp [hlt], rfl, ?_⟩
    ((repeat ((conv => whnf); first | refine brT ?_ | refine brF ?_)); conv => whnf)
    refine ⟨_, toPair_spec ps[k], ?_⟩
    ((repeat ((conv => whnf); first | refine brT ?_ | refine brF ?_)); conv => whnf)
    refine ⟨(fill_len hk).symm, rfl, k, rfl, by rw [fill_len hk]; exact hlt, ?_⟩
    ((repeat ((conv => whnf); first | refine brT ?_ | refine brF ?_)); conv => whnf)
    refine ⟨(fill_len hk).symm, k, [], zPr, rfl, by simp [getP, fill_get hlt], rfl, rfl, rfl, fillLV Pr.lv zPr ps (k + 1), by rw [fill_get hlt]; exact fill_set hlt, ?_⟩
    ((repeat ((conv => whnf); first | refine brT ?_ | refine brF ?_)); conv => whnf)
    refine round_end (k + 1) hlt (by omega) ⟨?_, ⟨rfl, trivial⟩, rfl, rfl⟩
    have e := step_i hlt hp'
    ((repeat ((conv => whnf); first | refine ⟨e, ?_⟩ | refine ⟨rfl, ?_⟩)); trivial)
  · have h4 : k = ps.length := by rw [ltI_f] at h1; simp at h1; omega
    subst h4
    ((repeat ((conv => whnf); first | refine brT ?_ | refine brF ?_)); conv => whnf)
    exact ⟨[.hs 0 ps.length], by simp [tupOf], rfl, .inl ⟨⟨rfl, trivial⟩, ⟨congrArg (Blk.arr 109 2) fill_all, trivial⟩, rfl, rfl⟩⟩
theorem toPairS_f (ps : List Pr) (hb : 16 * ps.length ≤ 281474976710656) : FSpec env.P 80 [.sl (ps.map Pr.lv)] (.own 109 2 (ps.map Pr.lv)) :=
  FSpec_of_HSpec (toPairS_h ps hb) (by simp only [exW]; exact ⟨rfl, rfl, rfl, rfl, by simp⟩)
theorem szPairS_spec (ps : List Pr) (l : Int) : FSpec env.P 78 [.sl (ps.map Pr.lv), .int .i64 l] (.int .i64 (szN l ps.length)) := by
  refine FSpec_of_code env_ok (fn := Try.f78) Try.func78 rfl Try.call78 _ _ ?_
  ((repeat ((conv => whnf); first | refine brT ?_ | refine brF ?_)); conv => whnf)
  intro hm
  rw [List.length_map]
  ((repeat ((conv => whnf); first | refine brT ?_ | refine brF ?_)); conv => whnf)
  (refine ⟨fun h => ?_, fun h => ?_⟩ <;> rw [h])
  · ((repeat ((conv => whnf); first | refine brT ?_ | refine brF ?_)); conv => whnf); exact ⟨rfl, by unfold szN; rw [h], List.nodup_nil⟩
  · ((repeat ((conv => whnf); first | refine brT ?_ | refine brF ?_)); conv => whnf); exact ⟨rfl, by unfold szN; rw [h], List.nodup_nil⟩
abbrev shPairs : Sh := .sl (.st [.int .i64, .int .i64])
theorem prs_of : ∀ (xs : List LV), (∀ x ∈ xs, hasSh (.st [.int .i64, .int .i64]) x) → ∃ ps : List Pr, xs = ps.map Pr.lv
  | [], _ => ⟨[], rfl⟩
  | x :: xs, h => by
    obtain ⟨ps, rfl⟩ := prs_of xs fun y hy => h y (by simp [hy])
    have h1 := h x (by simp)
    simp only [hasSh] at h1
    obtain ⟨ys, rfl, h2⟩ := h1
    match ys, h2 with
    | [a, b], h2 =>
      simp only [hasShs, hasSh] at h2
      obtain ⟨⟨a, rfl⟩, ⟨b, rfl⟩, _⟩ := h2
      exact ⟨⟨a, b⟩ :: ps, rfl⟩
    | [], h2 => simp [hasShs] at h2
    | [_], h2 => simp [hasShs] at h2
    | _ :: _ :: _ :: _, h2 => simp [hasShs] at h2
theorem pairs_of_sh {x : LV} (h : hasSh shPairs x) : ∃ ps : List Pr, x = .sl (ps.map Pr.lv) ∧ ps.length ≤ Go.maxLen := by
  simp only [hasSh] at h
  obtain ⟨xs, rfl, hl, h⟩ := h
  obtain ⟨ps, rfl⟩ := prs_of xs fun x hx => by simp only [hasSh]; exact h x hx
  exact ⟨ps, rfl, by simpa using hl⟩

/-- What pairs say, the first k of them. -/
def prTk (ps : List Pr) (k : Nat) : Nat → Nat → Bool := fun a b => decide (∃ p ∈ ps.take k, p.a = (a : Int) ∧ p.b = (b : Int))
def prInB (n : Int) (p : Pr) : Bool := (leI 0 p.a && ltI p.a n) && (leI 0 p.b && ltI p.b n)
def prOk (n : Int) (ps : List Pr) : Bool := (leI 0 n && leI n 40) && ps.all (prInB n)
def prN (n : Int) (ps : List Pr) : Nat := match prOk n ps with | true => n.toNat | false => 0
theorem prTk_zero (ps : List Pr) : prTk ps 0 = fun _ _ => false := by funext a b; simp [prTk]
theorem prTk_succ {ps : List Pr} {k a b : Nat} (hk : k < ps.length) (e : ps[k] = ⟨(a : Int), (b : Int)⟩) : putP (prTk ps k) a b true = prTk ps (k + 1) := by
  funext x y
  have ht : ps.take (k + 1) = ps.take k ++ [⟨(a : Int), (b : Int)⟩] := by rw [List.take_succ_eq_append_getElem hk, e]
  unfold putP prTk
  by_cases h : x = a ∧ y = b
  · obtain ⟨rfl, rfl⟩ := h
    rw [if_pos ⟨rfl, rfl⟩]
    exact (decide_eq_true ⟨⟨(x : Int), (y : Int)⟩, by rw [ht]; simp, rfl, rfl⟩).symm
  · rw [if_neg h, decide_eq_decide]
    constructor
    · rintro ⟨p, h1, h2⟩; exact ⟨p, by rw [ht]; exact List.mem_append_left _ h1, h2⟩
    · rintro ⟨p, h1, h2, h3⟩
      rw [ht, List.mem_append, List.mem_singleton] at h1
      rcases h1 with h1 | rfl
      · exact ⟨p, h1, h2, h3⟩
      · exact absurd ⟨by simp at h2; omega, by simp at h3; omega⟩ h
theorem prInB_nat {N : Nat} {p : Pr} (h : prInB (N : Int) p = true) : ∃ a b : Nat, p = ⟨(a : Int), (b : Int)⟩ ∧ a < N ∧ b < N := by
  unfold prInB at h
  simp only [Bool.and_eq_true, leI_t, ltI_t] at h
  cases p with
  | mk pa pb => exact ⟨pa.toNat, pb.toNat, by simp at h ⊢; omega, by simp at h; omega, by simp at h; omega⟩
theorem prNo {n : Int} {ps : List Pr} {p : Pr} (hp : p ∈ ps) (h : prInB n p = false) : prOk n ps = false := by
  unfold prOk
  rw [Bool.and_eq_false_iff]
  right
  rw [List.all_eq_false]
  exact ⟨p, hp, by rw [h]; simp⟩
theorem prSz {n : Int} {ps : List Pr} (h : notB (leI 0 n && leI n 40) = true) : prOk n ps = false := by
  unfold prOk; rw [notB_t] at h; rw [h]; rfl

theorem implRelationOf_h (n : Int) (ps : List Pr) (hm : ps.length ≤ Go.maxLen) :
    HSpec env.P 46 [.int .i64 n, .sl (ps.map Pr.lv)] [] (.tup [relHS (prN n ps) 0 ((relRows (prN n ps) (prTk ps ps.length)).map rowOw).length, .bool (prOk n ps)]) [.tree 29 1 ((relRows (prN n ps) (prTk ps ps.length)).map rowOw)] := by
  refine HSpec_of_code (E := env.x [111, 116] 0) env_ok.x (fn := Try.f46) Try.func46 rfl Try.call46 _ _ _ _ ?_
  ((repeat ((conv => whnf); first | refine brT ?_ | refine brF ?_)); conv => whnf)
  refine ⟨_, isSize_spec n, ?_⟩
  ((repeat ((conv => whnf); first | refine brT ?_ | refine brF ?_)); conv => whnf)
  (refine ⟨fun h => ?_, fun h => ?_⟩ <;> rw [h])
  · have e : prOk n ps = false := prSz h
    rw [show prN n ps = 0 by unfold prN; rw [e], e]
    ((repeat ((conv => whnf); first | refine brT ?_ | refine brF ?_)); conv => whnf)
    exact ⟨[relHS 0 0 0, .bool false], rfl, rfl, .nl [.tmp 0 [1] true 29 1] [.old 1] ⟨⟨rfl, rfl, rfl, rfl, trivial⟩, ⟨rfl, rfl, trivial⟩, rfl⟩⟩
  obtain ⟨h0, h1⟩ := isSize_ok h
  obtain ⟨N, rfl⟩ : ∃ N : Nat, n = (N : Int) := ⟨n.toNat, by omega⟩
  have hN : N ≤ 40 := by omega
  ((repeat ((conv => whnf); first | refine brT ?_ | refine brF ?_)); conv => whnf)
  refine ⟨N, rfl, rfl, by show 8 * N ≤ _; omega, by unfold Go.maxLen; omega, rfl, by decide, ?_⟩
  have ez : List.replicate N (LV.int .u64 0) = (setsP N (prTk ps 0)).map uLV := by rw [prTk_zero, ← setsP_zero]; simp [uLV]
  ((repeat ((conv => whnf); first | refine brT ?_ | refine brF ?_)); conv => whnf)
  rw [ez]
  intro _
  ((repeat ((conv => whnf); first | refine brT ?_ | refine brF ?_)); conv => whnf)
  refine loop_rule (α := Nat) (fun k => [(17, .int .i64 (k : Int))]) (fun k => [.box (.st [.int .i64 0, .nil]), .arr 100 1 ((setsP N (prTk ps k)).map uLV)]) (fun k => ps.length - k) (fun k => k ≤ ps.length ∧ ∀ p ∈ ps.take k, prInB N p = true) 0 ⟨Nat.zero_le _, fun p hp => by simp at hp⟩ ?_ ?_
  · refine ⟨?_, ⟨rfl, rfl, trivial⟩, rfl, rfl⟩
    ((repeat ((conv => whnf); refine ⟨rfl, ?_⟩)); trivial)
  rintro k ⟨hk, he⟩
  ((repeat ((conv => whnf); first | refine brT ?_ | refine brF ?_)); conv => whnf)
  (refine ⟨fun g1 => ?_, fun g1 => ?_⟩ <;> rw [g1])
  · have hlt : k < ps.length := by rw [ltI_t] at g1; simp at g1; omega
    have e1 := step_i hlt hm
    have hmem : ps[k] ∈ ps := List.getElem_mem hlt
    ((repeat ((conv => whnf); first | refine brT ?_ | refine brF ?_)); conv => whnf)
    refine ⟨k, ps[k].lv, rfl, by simp [hlt], rfl, ?_⟩
    ((repeat ((conv => whnf); first | refine brT ?_ | refine brF ?_)); conv => whnf)
    refine ⟨_, isBelow_spec ps[k].a N, ?_⟩
    ((repeat ((conv => whnf); first | refine brT ?_ | refine brF ?_)); conv => whnf)
    (refine ⟨fun g2 => ?_, fun g2 => ?_⟩ <;> rw [g2])
    · rw [notB_t] at g2
      have e : prOk N ps = false := prNo hmem (by unfold prInB; rw [g2]; rfl)
      rw [show prN N ps = 0 by unfold prN; rw [e], e]
      ((repeat ((conv => whnf); first | refine brT ?_ | refine brF ?_)); conv => whnf)
      exact ⟨[relHS 0 0 0, .bool false], rfl, rfl, .nl [.tmp 0 [1] true 29 1] [.old 3] ⟨⟨rfl, rfl, rfl, rfl, trivial⟩, ⟨rfl, rfl, trivial⟩, rfl⟩⟩
    rw [notB_f] at g2
    ((repeat ((conv => whnf); first | refine brT ?_ | refine brF ?_)); conv => whnf)
    refine ⟨_, isBelow_spec ps[k].b N, ?_⟩
    ((repeat ((conv => whnf); first | refine brT ?_ | refine brF ?_)); conv => whnf)
    (refine ⟨fun g3 => ?_, fun g3 => ?_⟩ <;> rw [g3])
    · rw [notB_t] at g3
      have e : prOk N ps = false := prNo hmem (by unfold prInB; rw [g3]; simp)
      rw [show prN N ps = 0 by unfold prN; rw [e], e]
      ((repeat ((conv => whnf); first | refine brT ?_ | refine brF ?_)); conv => whnf)
      exact ⟨[relHS 0 0 0, .bool false], rfl, rfl, .nl [.tmp 0 [1] true 29 1] [.old 3] ⟨⟨rfl, rfl, rfl, rfl, trivial⟩, ⟨rfl, rfl, trivial⟩, rfl⟩⟩
    rw [notB_f] at g3
    have hin : prInB N ps[k] = true := by unfold prInB; rw [g2, g3]; rfl
    obtain ⟨a, b, hpk, ha, hb⟩ := prInB_nat hin
    have hput := prTk_succ hlt hpk
    have he2 : ∀ p ∈ ps.take (k + 1), prInB N p = true := by
      intro p hp
      rw [List.take_succ_eq_append_getElem hlt, List.mem_append, List.mem_singleton] at hp
      rcases hp with hp | rfl
      · exact he p hp
      · exact hin
    rw [hpk]
    ((repeat ((conv => whnf); first | refine brT ?_ | refine brF ?_)); conv => whnf)
    refine ⟨false, 6, by kernel_rfl, ?_⟩
    ((repeat ((conv => whnf); first | refine brT ?_ | refine brF ?_)); conv => whnf)
    refine ⟨by simp [setsP_len], rfl, a, rfl, by simpa [setsP_len] using ha, ?_⟩
    ((repeat ((conv => whnf); first | refine brT ?_ | refine brF ?_)); conv => whnf)
    refine ⟨[1], _, _, _, _, add_elem N (prTk ps k) a b ha hb hN N (by simp [setsP_len]), rfl, ?_⟩
    ((repeat ((conv => whnf); first | refine brT ?_ | refine brF ?_)); conv => whnf)
    refine ⟨rfl, rfl, trivial, ?_⟩
    ((repeat ((conv => whnf); first | refine brT ?_ | refine brF ?_)); conv => whnf)
    refine round_end (k + 1) ⟨hlt, he2⟩ (by omega) ⟨?_, ⟨rfl, congrArg (fun P => Blk.arr 100 1 ((setsP N P).map uLV)) hput, trivial⟩, rfl, rfl⟩
    ((repeat ((conv => whnf); first | refine ⟨e1, ?_⟩ | refine ⟨rfl, ?_⟩)); trivial)
  · have h3 : k = ps.length := by rw [ltI_f] at g1; simp at g1; omega
    subst h3
    rw [List.take_length] at he
    have e : prOk N ps = true := by
      unfold prOk
      rw [notB_f] at h
      rw [h, Bool.true_and, List.all_eq_true]; exact he
    rw [show prN N ps = N by unfold prN; rw [e]; simp, e]
    ((repeat ((conv => whnf); first | refine brT ?_ | refine brF ?_)); conv => whnf)
    refine ⟨[], _, _, _, _, relationOfSets_P N (prTk ps ps.length) hN, rfl, ?_⟩
    ((repeat ((conv => whnf); first | refine brT ?_ | refine brF ?_)); conv => whnf)
    refine ⟨by simp [setsP_len], ?_⟩
    ((repeat ((conv => whnf); first | refine brT ?_ | refine brF ?_)); conv => whnf)
    refine ⟨rfl, rfl, ⟨rfl, flatTs_rows _, trivial⟩, ?_⟩
    ((repeat ((conv => whnf); first | refine brT ?_ | refine brF ?_)); conv => whnf)
    refine ⟨[relHS N 0 ((relRows N (prTk ps ps.length)).map rowOw).length, .bool true], rfl, rfl, .inr ⟨[.old 2], ⟨rfl, rfl, rfl, rfl, trivial⟩, ⟨rfl, rfl, trivial⟩, rfl⟩⟩

theorem specRelationOf_h (n : Int) (ps : List Pr) (hm : ps.length ≤ Go.maxLen) :
    HSpec env.P 79 [.int .i64 n, .sl (ps.map Pr.lv)] [] (.tup [relHS (prN n ps) 0 ((relRows (prN n ps) (prTk ps ps.length)).map rowOw).length, .bool (prOk n ps)]) [.tree 29 1 ((relRows (prN n ps) (prTk ps ps.length)).map rowOw)] := by
  refine HSpec_of_code (E := env.x [155, 154] 0) env_ok.x (fn := Try.f79) Try.func79 rfl Try.call79 _ _ _ _ ?_
  ((repeat ((conv => whnf); first | refine brT ?_ | refine brF ?_)); conv => whnf)
  refine ⟨_, l1In_spec n 0 40, ?_⟩
  ((repeat ((conv => whnf); first | refine brT ?_ | refine brF ?_)); conv => whnf)
  (refine ⟨fun h => ?_, fun h => ?_⟩ <;> rw [h])
  · have e : prOk n ps = false := prSz h
    rw [show prN n ps = 0 by unfold prN; rw [e], e]
    ((repeat ((conv => whnf); first | refine brT ?_ | refine brF ?_)); conv => whnf)
    exact ⟨[relHS 0 0 0, .bool false], rfl, rfl, .nl [.tmp 0 [1] true 29 1] [.old 1] ⟨⟨rfl, rfl, rfl, rfl, trivial⟩, ⟨rfl, rfl, trivial⟩, rfl⟩⟩
  obtain ⟨h0, h1⟩ := isSize_ok h
  obtain ⟨N, rfl⟩ : ∃ N : Nat, n = (N : Int) := ⟨n.toNat, by omega⟩
  have hN : N ≤ 40 := by omega
  ((repeat ((conv => whnf); first | refine brT ?_ | refine brF ?_)); conv => whnf)
  refine ⟨[], _, _, _, _, l2Blank_P N hN, rfl, rfl, rfl, trivial, ?_⟩
  rw [← prTk_zero ps]
  ((repeat ((conv => whnf); first | refine brT ?_ | refine brF ?_)); conv => whnf)
  intro _
  ((repeat ((conv => whnf); first | refine brT ?_ | refine brF ?_)); conv => whnf)
  refine loop_ruleR (α := Nat) [.old 0, .old 1] (fun k => [(17, .int .i64 (k : Int))]) (fun k => [.box (.st [.int .i64 0, .nil]), .tree 139 1 ((gridP N (prTk ps k)).map lineOw)]) (fun k => ps.length - k) (fun k => k ≤ ps.length ∧ ∀ p ∈ ps.take k, prInB N p = true) 0 ⟨Nat.zero_le _, fun p hp => by simp at hp⟩ ?_ ?_
  · refine ⟨?_, ⟨rfl, rfl, rfl, rfl, trivial⟩, rfl⟩
    ((repeat ((conv => whnf); refine ⟨rfl, rfl, ?_⟩)); trivial)
  rintro k ⟨hk, he⟩
  ((repeat ((conv => whnf); first | refine brT ?_ | refine brF ?_)); conv => whnf)
  (refine ⟨fun g1 => ?_, fun g1 => ?_⟩ <;> rw [g1])
  · have hlt : k < ps.length := by rw [ltI_t] at g1; simp at g1; omega
    have e1 := step_i hlt hm
    have hmem : ps[k] ∈ ps := List.getElem_mem hlt
    have ew : IntKind.i64.wrap ((N : Int) - 1) = (N : Int) - 1 := wrap64 (by omega) (by omega)
    have el : ∀ x : Int, (leI 0 x && leI x ((N : Int) - 1)) = (leI 0 x && ltI x N) := fun x => by
      congr 1
      rw [Bool.eq_iff_iff, leI_t, ltI_t]; omega
    ((repeat ((conv => whnf); first | refine brT ?_ | refine brF ?_)); conv => whnf)
    refine ⟨k, ps[k].lv, rfl, by simp [hlt], rfl, ?_⟩
    ((repeat ((conv => whnf); first | refine brT ?_ | refine brF ?_)); conv => whnf)
    rw [ew]
    refine ⟨_, l1In_spec ps[k].a 0 ((N : Int) - 1), ?_⟩
    rw [el]
    ((repeat ((conv => whnf); first | refine brT ?_ | refine brF ?_)); conv => whnf)
    (refine ⟨fun g2 => ?_, fun g2 => ?_⟩ <;> rw [g2])
    · rw [notB_t] at g2
      have e : prOk N ps = false := prNo hmem (by unfold prInB; rw [g2]; rfl)
      rw [show prN N ps = 0 by unfold prN; rw [e], e]
      ((repeat ((conv => whnf); first | refine brT ?_ | refine brF ?_)); conv => whnf)
      exact ⟨[relHS 0 0 0, .bool false], rfl, rfl, .nl [.tmp 0 [1] true 29 1] [.old 3] ⟨⟨rfl, rfl, rfl, rfl, trivial⟩, ⟨rfl, rfl, trivial⟩, rfl⟩⟩
    rw [notB_f] at g2
    ((repeat ((conv => whnf); first | refine brT ?_ | refine brF ?_)); conv => whnf)
    rw [ew]
    refine ⟨_, l1In_spec ps[k].b 0 ((N : Int) - 1), ?_⟩
    rw [el]
    ((repeat ((conv => whnf); first | refine brT ?_ | refine brF ?_)); conv => whnf)
    (refine ⟨fun g3 => ?_, fun g3 => ?_⟩ <;> rw [g3])
    · rw [notB_t] at g3
      have e : prOk N ps = false := prNo hmem (by unfold prInB; rw [g3]; simp)
      rw [show prN N ps = 0 by unfold prN; rw [e], e]
      ((repeat ((conv => whnf); first | refine brT ?_ | refine brF ?_)); conv => whnf)
      exact ⟨[relHS 0 0 0, .bool false], rfl, rfl, .nl [.tmp 0 [1] true 29 1] [.old 3] ⟨⟨rfl, rfl, rfl, rfl, trivial⟩, ⟨rfl, rfl, trivial⟩, rfl⟩⟩
    rw [notB_f] at g3
    have hin : prInB N ps[k] = true := by unfold prInB; rw [g2, g3]; rfl
    obtain ⟨a, b, hpk, ha, hb⟩ := prInB_nat hin
    have hput := prTk_succ hlt hpk
    have he2 : ∀ p ∈ ps.take (k + 1), prInB N p = true := by
      intro p hp
      rw [List.take_succ_eq_append_getElem hlt, List.mem_append, List.mem_singleton] at hp
      rcases hp with hp | rfl
      · exact he p hp
      · exact hin
    rw [hpk]
    ((repeat ((conv => whnf); first | refine brT ?_ | refine brF ?_)); conv => whnf)
    refine ⟨false, 8, by kernel_rfl, ?_⟩
    ((repeat ((conv => whnf); first | refine brT ?_ | refine brF ?_)); conv => whnf)
    refine ⟨lines_len.symm, rfl, a, rfl, by rw [lines_len]; exact ha, ?_⟩
    ((repeat ((conv => whnf); first | refine brT ?_ | refine brF ?_)); conv => whnf)
    refine ⟨lines_len.symm, lineOw (lineP N (prTk ps k) a), lineOw (lineP N (prTk ps k) a), lines_get ha, rfl, ?_⟩
    ((repeat ((conv => whnf); first | refine brT ?_ | refine brF ?_)); conv => whnf)
    refine ⟨rfl, rfl, b, rfl, by rw [cells_len]; exact hb, ?_⟩
    ((repeat ((conv => whnf); first | refine brT ?_ | refine brF ?_)); conv => whnf)
    refine ⟨rfl, b, [], .bool (prTk ps k a b), rfl, by simp only [getP]; rw [cell_get hb], rfl, rfl, rfl, (lineP N (putP (prTk ps k) a b true) a).map bLV, by rw [cell_get hb]; exact cells_put, ?_⟩
    ((repeat ((conv => whnf); first | refine brT ?_ | refine brF ?_)); conv => whnf)
    refine round_endR [.old 0, .old 1] (k + 1) ⟨hlt, he2⟩ (by omega) ⟨?_, ⟨by rw [cells_len, cells_len], rfl, rfl, rfl, congrArg (Blk.tree 139 1) (by rw [← hput]; exact lines_put), trivial⟩, rfl⟩
    ((repeat ((conv => whnf); first | refine ⟨rfl, e1, ?_⟩ | refine ⟨rfl, rfl, ?_⟩)); trivial)
  · have h3 : k = ps.length := by rw [ltI_f] at g1; simp at g1; omega
    subst h3
    rw [List.take_length] at he
    have e : prOk N ps = true := by
      unfold prOk
      rw [notB_f] at h
      rw [h, Bool.true_and, List.all_eq_true]; exact he
    rw [show prN N ps = N by unfold prN; rw [e]; simp, e]
    ((repeat ((conv => whnf); first | refine brT ?_ | refine brF ?_)); conv => whnf)
    refine ⟨[], _, _, _, _, l2Of_P N (prTk ps ps.length) hN, rfl, ?_⟩
    ((repeat ((conv => whnf); first | refine brT ?_ | refine brF ?_)); conv => whnf)
    refine ⟨lines_len.symm, _, dms_lines _, ?_⟩
    ((repeat ((conv => whnf); first | refine brT ?_ | refine brF ?_)); conv => whnf)
    refine ⟨rfl, rfl, ⟨rfl, flatTs_rows _, trivial⟩, ?_⟩
    ((repeat ((conv => whnf); first | refine brT ?_ | refine brF ?_)); conv => whnf)
    refine ⟨[relHS N 0 ((relRows N (prTk ps ps.length)).map rowOw).length, .bool true], rfl, rfl, .inr ⟨[.old 2], ⟨rfl, rfl, rfl, rfl, trivial⟩, ⟨rfl, rfl, trivial⟩, rfl⟩⟩

theorem prN_le {n : Int} {ps : List Pr} : prN n ps ≤ 40 := by
  unfold prN
  split
  · rename_i h
    unfold prOk at h
    simp only [Bool.and_eq_true, leI_t] at h
    omega
  · omega

theorem law_relationOf (n : Int) (ps : List Pr) (hl : ps.length ≤ Go.maxLen) : FSpec env.P 15 [.int .i64 n, .sl (ps.map Pr.lv)] (.bool true) := by
  refine FSpec_of_code (E := env.x [79, 46, 75, 80, 82] 0) env_ok.x (fn := Try.f15) Try.func15 rfl Try.call15 _ _ ?_
  have hR := tot_relRows (P := prTk ps ps.length) (prN_le (n := n) (ps := ps))
  have hS := specRelationOf_h n ps hl
  have hI := implRelationOf_h n ps hl
  generalize relRows (prN n ps) (prTk ps ps.length) = R at hS hI hR
  generalize prN n ps = N at hS hI
  generalize prOk n ps = ok at hS hI
  ((repeat ((conv => whnf); first | refine brT ?_ | refine brF ?_)); conv => whnf)
  refine ⟨_, szPairS_spec ps 1048576, ?_⟩
  by_cases h0 : 0 ≤ szN 1048576 ps.length
  rotate_left
  · ((repeat ((conv => whnf); first | refine brT ?_ | refine brF ?_)); conv => whnf)
    rw [show ltI (szN 1048576 ps.length) 0 = true by rw [ltI_t]; omega]
    ((repeat ((conv => whnf); first | refine brT ?_ | refine brF ?_)); conv => whnf)
    exact fin rfl
  obtain ⟨a1, a2⟩ := szN_ok (by omega) (by omega) hl h0
  have hb : 16 * ps.length ≤ 281474976710656 := by omega
  ((repeat ((conv => whnf); first | refine brT ?_ | refine brF ?_)); conv => whnf)
  rw [show ltI (szN 1048576 ps.length) 0 = false by rw [ltI_f]; exact h0]
  ((repeat ((conv => whnf); first | refine brT ?_ | refine brF ?_)); conv => whnf)
  refine ⟨[], _, _, _, _, toPairS_h ps hb, rfl, rfl, rfl, trivial, ?_⟩
  ((repeat ((conv => whnf); first | refine brT ?_ | refine brF ?_)); conv => whnf)
  refine ⟨[], _, _, _, _, hS, rfl, ?_⟩
  ((repeat ((conv => whnf); first | refine brT ?_ | refine brF ?_)); conv => whnf)
  refine ⟨rfl, ?_⟩
  ((repeat ((conv => whnf); first | refine brT ?_ | refine brF ?_)); conv => whnf)
  refine ⟨rfl, rfl, ⟨rfl, flatTs_rows _, trivial⟩, ?_⟩
  ((repeat ((conv => whnf); first | refine brT ?_ | refine brF ?_)); conv => whnf)
  refine ⟨[], _, _, _, _, toPairS_h ps hb, rfl, rfl, rfl, trivial, ?_⟩
  ((repeat ((conv => whnf); first | refine brT ?_ | refine brF ?_)); conv => whnf)
  refine ⟨[], _, _, _, _, hI, rfl, ?_⟩
  ((repeat ((conv => whnf); first | refine brT ?_ | refine brF ?_)); conv => whnf)
  refine ⟨rfl, ?_⟩
  ((repeat ((conv => whnf); first | refine brT ?_ | refine brF ?_)); conv => whnf)
  refine ⟨rfl, rfl, ⟨rfl, flatTs_rows _, trivial⟩, ?_⟩
  ((repeat ((conv => whnf); first | refine brT ?_ | refine brF ?_)); conv => whnf)
  refine ⟨rfl, _, dms_rows _, ?_⟩
  ((repeat ((conv => whnf); first | refine brT ?_ | refine brF ?_)); conv => whnf)
  refine ⟨rfl, _, dms_rows _, ?_⟩
  ((repeat ((conv => whnf); first | refine brT ?_ | refine brF ?_)); conv => whnf)
  refine ⟨_, eqRelation_spec _ _ _ _, ?_⟩
  rw [eqRel_refl]
  ((repeat ((conv => whnf); first | refine brT ?_ | refine brF ?_)); conv => whnf)
  rw [show notB true = false by simp [notB]]
  ((repeat ((conv => whnf); first | refine brT ?_ | refine brF ?_)); conv => whnf)
  rw [eqB_refl, show notB true = false by simp [notB]]
  ((repeat ((conv => whnf); first | refine brT ?_ | refine brF ?_)); conv => whnf)
  refine ⟨[], _, _, _, _, toPairS_h ps hb, rfl, rfl, rfl, trivial, ?_⟩
  ((repeat ((conv => whnf); first | refine brT ?_ | refine brF ?_)); conv => whnf)
  refine ⟨rfl, ?_⟩
  ((repeat ((conv => whnf); first | refine brT ?_ | refine brF ?_)); conv => whnf)
  refine ⟨rfl, ?_⟩
  ((repeat ((conv => whnf); first | refine brT ?_ | refine brF ?_)); conv => whnf)
  refine ⟨_, eqPairS_spec _ _, ?_⟩
  rw [eqPairS_refl]
  ((repeat ((conv => whnf); first | refine brT ?_ | refine brF ?_)); conv => whnf)
  rw [show notB true = false by simp [notB]]
  ((repeat ((conv => whnf); first | refine brT ?_ | refine brF ?_)); conv => whnf)
  refine ⟨[3], _, _, _, _, markPairS_spec ps _ rfl 1 (by omega), rfl, rfl, rfl, trivial, ?_⟩
  ((repeat ((conv => whnf); first | refine brT ?_ | refine brF ?_)); conv => whnf)
  rw [show ltI ((1 + 2 * ps.length : Nat) : Int) 0 = false by rw [ltI_f]; omega]
  ((repeat ((conv => whnf); first | refine brT ?_ | refine brF ?_)); conv => whnf)
  refine ⟨rfl, _, dms_rows _, ?_⟩
  ((repeat ((conv => whnf); first | refine brT ?_ | refine brF ?_)); conv => whnf)
  refine ⟨rfl, _, dms_rows _, ?_⟩
  ((repeat ((conv => whnf); first | refine brT ?_ | refine brF ?_)); conv => whnf)
  refine ⟨_, eqRelation_spec _ _ _ _, ?_⟩
  rw [eqRel_refl]
  ((repeat ((conv => whnf); first | refine brT ?_ | refine brF ?_)); conv => whnf)
  rw [show notB true = false by simp [notB]]
  ((repeat ((conv => whnf); first | refine brT ?_ | refine brF ?_)); conv => whnf)
  rw [eqB_refl, show notB true = false by simp [notB]]
  ((repeat ((conv => whnf); first | refine brT ?_ | refine brF ?_)); conv => whnf)
  refine ⟨[4], _, _, _, _, markRelation_spec _ _ _ rfl 1 (by omega) (by omega), rfl, rfl, rfl, trivial, ?_⟩
  ((repeat ((conv => whnf); first | refine brT ?_ | refine brF ?_)); conv => whnf)
  refine ⟨by simp [markRows_len], _, dms_rows _, ?_⟩
  ((repeat ((conv => whnf); first | refine brT ?_ | refine brF ?_)); conv => whnf)
  refine ⟨_, heldRelation_spec _ R 1 (by omega) (by omega), ?_⟩
  ((repeat ((conv => whnf); first | refine brT ?_ | refine brF ?_)); conv => whnf)
  rw [show ltI (1 + (tot R : Int)) 0 = false by rw [ltI_f]; omega]
  ((repeat ((conv => whnf); first | refine brT ?_ | refine brF ?_)); conv => whnf)
  rw [eqI_refl, show notB true = false by simp [notB]]
  ((repeat ((conv => whnf); first | refine brT ?_ | refine brF ?_)); conv => whnf)
  refine ⟨[], _, _, _, _, toPairS_h ps hb, rfl, rfl, rfl, trivial, ?_⟩
  ((repeat ((conv => whnf); first | refine brT ?_ | refine brF ?_)); conv => whnf)
  refine ⟨[], _, _, _, _, hI, rfl, ?_⟩
  ((repeat ((conv => whnf); first | refine brT ?_ | refine brF ?_)); conv => whnf)
  refine ⟨rfl, ?_⟩
  ((repeat ((conv => whnf); first | refine brT ?_ | refine brF ?_)); conv => whnf)
  refine ⟨rfl, rfl, ⟨rfl, flatTs_rows _, trivial⟩, ?_⟩
  ((repeat ((conv => whnf); first | refine brT ?_ | refine brF ?_)); conv => whnf)
  refine ⟨rfl, _, dms_rows _, ?_⟩
  ((repeat ((conv => whnf); first | refine brT ?_ | refine brF ?_)); conv => whnf)
  refine ⟨rfl, _, dms_rows _, ?_⟩
  ((repeat ((conv => whnf); first | refine brT ?_ | refine brF ?_)); conv => whnf)
  refine ⟨_, eqRelation_spec _ _ _ _, ?_⟩
  rw [eqRel_refl]
  ((repeat ((conv => whnf); first | refine brT ?_ | refine brF ?_)); conv => whnf)
  rw [show notB true = false by simp [notB]]
  ((repeat ((conv => whnf); first | refine brT ?_ | refine brF ?_)); conv => whnf)
  rw [eqB_refl, show notB true = false by simp [notB]]
  ((repeat ((conv => whnf); first | refine brT ?_ | refine brF ?_)); conv => whnf)
  refine ⟨by simp [markRows_len], _, dms_rows _, ?_⟩
  ((repeat ((conv => whnf); first | refine brT ?_ | refine brF ?_)); conv => whnf)
  refine ⟨_, heldRelation_spec _ R 1 (by omega) (by omega), ?_⟩
  ((repeat ((conv => whnf); first | refine brT ?_ | refine brF ?_)); conv => whnf)
  rw [show ltI (1 + (tot R : Int)) 0 = false by rw [ltI_f]; omega]
  ((repeat ((conv => whnf); first | refine brT ?_ | refine brF ?_)); conv => whnf)
  rw [eqI_refl, show notB true = false by simp [notB]]
  ((repeat ((conv => whnf); first | refine brT ?_ | refine brF ?_)); conv => whnf)
  exact fin rfl
end Go.Proofs.Ytfdjeflnjciloaa

namespace Go.Proofs.Ytfdjeflnjciloaa
open Go.Lg
set_option maxHeartbeats 1600000
set_option maxRecDepth 10000
set_option linter.unusedVariables false
set_option linter.unusedSimpArgs false

theorem law_identity (n : Int) : FSpec env.P 14 [.int .i64 n] (.bool true) := by
  refine FSpec_of_code (E := env.x [77, 43, 75] 0) env_ok.x (fn := Try.f14) Try.func14 rfl Try.call14 _ _ ?_
  have hk := empN_le n
  have hS := specIdentity_h n
  have hI := implIdentity_h n
  have hR := tot_relRows (P := idP (empN n)) hk
  generalize relRows (empN n) (idP (empN n)) = R at hS hI hR
  generalize empN n = N at hS hI
  ((repeat ((conv => whnf); first | refine brT ?_ | refine brF ?_)); conv => whnf)
  refine ⟨[], _, _, _, _, hS, rfl, rfl, rfl, trivial, ?_⟩
  ((repeat ((conv => whnf); first | refine brT ?_ | refine brF ?_)); conv => whnf)
  refine ⟨[], _, _, _, _, hI, rfl, rfl, rfl, trivial, ?_⟩
  ((repeat ((conv => whnf); first | refine brT ?_ | refine brF ?_)); conv => whnf)
  refine ⟨rfl, _, dms_rows _, ?_⟩
  ((repeat ((conv => whnf); first | refine brT ?_ | refine brF ?_)); conv => whnf)
  refine ⟨rfl, _, dms_rows _, ?_⟩
  ((repeat ((conv => whnf); first | refine brT ?_ | refine brF ?_)); conv => whnf)
  refine ⟨_, eqRelation_spec _ _ _ _, ?_⟩
  rw [eqRel_refl]
  ((repeat ((conv => whnf); first | refine brT ?_ | refine brF ?_)); conv => whnf)
  rw [show notB true = false by simp [notB]]
  ((repeat ((conv => whnf); first | refine brT ?_ | refine brF ?_)); conv => whnf)
  refine ⟨[2], _, _, _, _, markRelation_spec _ _ _ rfl 1 (by omega) (by omega), rfl, rfl, rfl, trivial, ?_⟩
  ((repeat ((conv => whnf); first | refine brT ?_ | refine brF ?_)); conv => whnf)
  refine ⟨by simp [markRows_len], _, dms_rows _, ?_⟩
  ((repeat ((conv => whnf); first | refine brT ?_ | refine brF ?_)); conv => whnf)
  refine ⟨_, heldRelation_spec _ R 1 (by omega) (by omega), ?_⟩
  ((repeat ((conv => whnf); first | refine brT ?_ | refine brF ?_)); conv => whnf)
  rw [show ltI (1 + (tot R : Int)) 0 = false by rw [ltI_f]; omega]
  ((repeat ((conv => whnf); first | refine brT ?_ | refine brF ?_)); conv => whnf)
  rw [eqI_refl, show notB true = false by simp [notB]]
  ((repeat ((conv => whnf); first | refine brT ?_ | refine brF ?_)); conv => whnf)
  refine ⟨[], _, _, _, _, hI, rfl, rfl, rfl, trivial, ?_⟩
  ((repeat ((conv => whnf); first | refine brT ?_ | refine brF ?_)); conv => whnf)
  refine ⟨rfl, _, dms_rows _, ?_⟩
  ((repeat ((conv => whnf); first | refine brT ?_ | refine brF ?_)); conv => whnf)
  refine ⟨rfl, _, dms_rows _, ?_⟩
  ((repeat ((conv => whnf); first | refine brT ?_ | refine brF ?_)); conv => whnf)
  refine ⟨_, eqRelation_spec _ _ _ _, ?_⟩
  rw [eqRel_refl]
  ((repeat ((conv => whnf); first | refine brT ?_ | refine brF ?_)); conv => whnf)
  rw [show notB true = false by simp [notB]]
  ((repeat ((conv => whnf); first | refine brT ?_ | refine brF ?_)); conv => whnf)
  refine ⟨by simp [markRows_len], _, dms_rows _, ?_⟩
  ((repeat ((conv => whnf); first | refine brT ?_ | refine brF ?_)); conv => whnf)
  refine ⟨_, heldRelation_spec _ R 1 (by omega) (by omega), ?_⟩
  ((repeat ((conv => whnf); first | refine brT ?_ | refine brF ?_)); conv => whnf)
  rw [show ltI (1 + (tot R : Int)) 0 = false by rw [ltI_f]; omega]
  ((repeat ((conv => whnf); first | refine brT ?_ | refine brF ?_)); conv => whnf)
  rw [eqI_refl, show notB true = false by simp [notB]]
  ((repeat ((conv => whnf); first | refine brT ?_ | refine brF ?_)); conv => whnf)
  exact fin rfl
theorem law_equal (n : Int) (rows : List (List Int)) (m : Int) (rows' : List (List Int)) (hl : RowsLen rows) (hl' : RowsLen rows') : FSpec env.P 12 [relLV n rows, relLV m rows'] (.bool true) := by
  refine FSpec_of_code env_ok (fn := Try.f12) Try.func12 rfl Try.call12 _ _ ?_
  ((repeat ((conv => whnf); first | refine brT ?_ | refine brF ?_)); conv => whnf)
  refine ⟨_, szRelation_spec n rows 1048576, ?_⟩
  by_cases h0 : 0 ≤ szRows 1048576 rows
  rotate_left
  · rw [show ltI (szRows 1048576 rows) 0 = true by rw [ltI_t]; omega]
    ((repeat ((conv => whnf); first | refine brT ?_ | refine brF ?_)); conv => whnf)
    rw [show ltI (-1) 0 = true by rw [ltI_t]; omega]
    ((repeat ((conv => whnf); first | refine brT ?_ | refine brF ?_)); conv => whnf)
    exact fin rfl
  obtain ⟨hb, ht, hlen, hle, hf⟩ := szRows_ok (by omega) (by omega) hl h0
  rw [hf]
  ((repeat ((conv => whnf); first | refine brT ?_ | refine brF ?_)); conv => whnf)
  rw [hf]
  ((repeat ((conv => whnf); first | refine brT ?_ | refine brF ?_)); conv => whnf)
  generalize szRows 1048576 rows = l at h0 hle
  refine ⟨_, szRelation_spec m rows' l, ?_⟩
  by_cases h0' : 0 ≤ szRows l rows'
  rotate_left
  · rw [show ltI (szRows l rows') 0 = true by rw [ltI_t]; omega]
    ((repeat ((conv => whnf); first | refine brT ?_ | refine brF ?_)); conv => whnf)
    rw [show ltI (-1) 0 = true by rw [ltI_t]; omega]
    ((repeat ((conv => whnf); first | refine brT ?_ | refine brF ?_)); conv => whnf)
    exact fin rfl
  obtain ⟨hb', ht', hlen', _, hf'⟩ := szRows_ok h0 hle hl' h0'
  rw [hf']
  ((repeat ((conv => whnf); first | refine brT ?_ | refine brF ?_)); conv => whnf)
  rw [hf']
  ((repeat ((conv => whnf); first | refine brT ?_ | refine brF ?_)); conv => whnf)
  refine ⟨true, by kernel_rfl, ?_⟩
  ((repeat ((conv => whnf); first | refine brT ?_ | refine brF ?_)); conv => whnf)
  refine ⟨_, toRelation_f n rows hb, ?_⟩
  ((repeat ((conv => whnf); first | refine brT ?_ | refine brF ?_)); conv => whnf)
  refine ⟨_, toRelation_f m rows' hb', ?_⟩
  ((repeat ((conv => whnf); first | refine brT ?_ | refine brF ?_)); conv => whnf)
  refine ⟨_, specEqual_spec n rows m rows', ?_⟩
  ((repeat ((conv => whnf); first | refine brT ?_ | refine brF ?_)); conv => whnf)
  refine ⟨_, toRelation_f n rows hb, ?_⟩
  ((repeat ((conv => whnf); first | refine brT ?_ | refine brF ?_)); conv => whnf)
  refine ⟨_, toRelation_f m rows' hb', ?_⟩
  ((repeat ((conv => whnf); first | refine brT ?_ | refine brF ?_)); conv => whnf)
  refine ⟨_, implEqual_spec n rows m rows', ?_⟩
  ((repeat ((conv => whnf); first | refine brT ?_ | refine brF ?_)); conv => whnf)
  rw [eqB_refl, show notB true = false by simp [notB]]
  ((repeat ((conv => whnf); first | refine brT ?_ | refine brF ?_)); conv => whnf)
  refine ⟨true, by kernel_rfl, ?_⟩
  ((repeat ((conv => whnf); first | refine brT ?_ | refine brF ?_)); conv => whnf)
  refine ⟨_, toRelation_f n rows hb, ?_⟩
  ((repeat ((conv => whnf); first | refine brT ?_ | refine brF ?_)); conv => whnf)
  refine ⟨_, eqRelation_spec n rows n rows, ?_⟩
  rw [eqRel_refl]
  ((repeat ((conv => whnf); first | refine brT ?_ | refine brF ?_)); conv => whnf)
  rw [show notB true = false by simp [notB]]
  ((repeat ((conv => whnf); first | refine brT ?_ | refine brF ?_)); conv => whnf)
  refine ⟨true, by kernel_rfl, ?_⟩
  ((repeat ((conv => whnf); first | refine brT ?_ | refine brF ?_)); conv => whnf)
  refine ⟨_, toRelation_f m rows' hb', ?_⟩
  ((repeat ((conv => whnf); first | refine brT ?_ | refine brF ?_)); conv => whnf)
  refine ⟨_, eqRelation_spec m rows' m rows', ?_⟩
  rw [eqRel_refl]
  ((repeat ((conv => whnf); first | refine brT ?_ | refine brF ?_)); conv => whnf)
  rw [show notB true = false by simp [notB]]
  ((repeat ((conv => whnf); first | refine brT ?_ | refine brF ?_)); conv => whnf)
  exact fin rfl
theorem law_within (n : Int) (rows : List (List Int)) (m : Int) (rows' : List (List Int)) (hl : RowsLen rows) (hl' : RowsLen rows') : FSpec env.P 24 [relLV n rows, relLV m rows'] (.bool true) := by
  refine FSpec_of_code env_ok (fn := Try.f24) Try.func24 rfl Try.call24 _ _ ?_
  ((repeat ((conv => whnf); first | refine brT ?_ | refine brF ?_)); conv => whnf)
  refine ⟨_, szRelation_spec n rows 1048576, ?_⟩
  by_cases h0 : 0 ≤ szRows 1048576 rows
  rotate_left
  · rw [show ltI (szRows 1048576 rows) 0 = true by rw [ltI_t]; omega]
    ((repeat ((conv => whnf); first | refine brT ?_ | refine brF ?_)); conv => whnf)
    rw [show ltI (-1) 0 = true by rw [ltI_t]; omega]
    ((repeat ((conv => whnf); first | refine brT ?_ | refine brF ?_)); conv => whnf)
    exact fin rfl
  obtain ⟨hb, ht, hlen, hle, hf⟩ := szRows_ok (by omega) (by omega) hl h0
  rw [hf]
  ((repeat ((conv => whnf); first | refine brT ?_ | refine brF ?_)); conv => whnf)
  rw [hf]
  ((repeat ((conv => whnf); first | refine brT ?_ | refine brF ?_)); conv => whnf)
  generalize szRows 1048576 rows = l at h0 hle
  refine ⟨_, szRelation_spec m rows' l, ?_⟩
  by_cases h0' : 0 ≤ szRows l rows'
  rotate_left
  · rw [show ltI (szRows l rows') 0 = true by rw [ltI_t]; omega]
    ((repeat ((conv => whnf); first | refine brT ?_ | refine brF ?_)); conv => whnf)
    rw [show ltI (-1) 0 = true by rw [ltI_t]; omega]
    ((repeat ((conv => whnf); first | refine brT ?_ | refine brF ?_)); conv => whnf)
    exact fin rfl
  obtain ⟨hb', ht', hlen', _, hf'⟩ := szRows_ok h0 hle hl' h0'
  rw [hf']
  ((repeat ((conv => whnf); first | refine brT ?_ | refine brF ?_)); conv => whnf)
  rw [hf']
  ((repeat ((conv => whnf); first | refine brT ?_ | refine brF ?_)); conv => whnf)
  refine ⟨true, by kernel_rfl, ?_⟩
  ((repeat ((conv => whnf); first | refine brT ?_ | refine brF ?_)); conv => whnf)
  refine ⟨_, toRelation_f n rows hb, ?_⟩
  ((repeat ((conv => whnf); first | refine brT ?_ | refine brF ?_)); conv => whnf)
  refine ⟨_, toRelation_f m rows' hb', ?_⟩
  ((repeat ((conv => whnf); first | refine brT ?_ | refine brF ?_)); conv => whnf)
  refine ⟨_, specWithin_spec n rows m rows', ?_⟩
  ((repeat ((conv => whnf); first | refine brT ?_ | refine brF ?_)); conv => whnf)
  refine ⟨_, toRelation_f n rows hb, ?_⟩
  ((repeat ((conv => whnf); first | refine brT ?_ | refine brF ?_)); conv => whnf)
  refine ⟨_, toRelation_f m rows' hb', ?_⟩
  ((repeat ((conv => whnf); first | refine brT ?_ | refine brF ?_)); conv => whnf)
  refine ⟨_, implWithin_spec n rows m rows', ?_⟩
  ((repeat ((conv => whnf); first | refine brT ?_ | refine brF ?_)); conv => whnf)
  rw [eqB_refl, show notB true = false by simp [notB]]
  ((repeat ((conv => whnf); first | refine brT ?_ | refine brF ?_)); conv => whnf)
  refine ⟨true, by kernel_rfl, ?_⟩
  ((repeat ((conv => whnf); first | refine brT ?_ | refine brF ?_)); conv => whnf)
  refine ⟨_, toRelation_f n rows hb, ?_⟩
  ((repeat ((conv => whnf); first | refine brT ?_ | refine brF ?_)); conv => whnf)
  refine ⟨_, eqRelation_spec n rows n rows, ?_⟩
  rw [eqRel_refl]
  ((repeat ((conv => whnf); first | refine brT ?_ | refine brF ?_)); conv => whnf)
  rw [show notB true = false by simp [notB]]
  ((repeat ((conv => whnf); first | refine brT ?_ | refine brF ?_)); conv => whnf)
  refine ⟨true, by kernel_rfl, ?_⟩
  ((repeat ((conv => whnf); first | refine brT ?_ | refine brF ?_)); conv => whnf)
  refine ⟨_, toRelation_f m rows' hb', ?_⟩
  ((repeat ((conv => whnf); first | refine brT ?_ | refine brF ?_)); conv => whnf)
  refine ⟨_, eqRelation_spec m rows' m rows', ?_⟩
  rw [eqRel_refl]
  ((repeat ((conv => whnf); first | refine brT ?_ | refine brF ?_)); conv => whnf)
  rw [show notB true = false by simp [notB]]
  ((repeat ((conv => whnf); first | refine brT ?_ | refine brF ?_)); conv => whnf)
  exact fin rfl
end Go.Proofs.Ytfdjeflnjciloaa
