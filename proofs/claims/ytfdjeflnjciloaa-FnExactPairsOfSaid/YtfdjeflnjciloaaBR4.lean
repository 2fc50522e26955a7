/- Contracts of functions of the program and of its model, told over readings. -/
import Derived.Test.YtfdjeflnjciloaaBR3
namespace Go.Proofs.Ytfdjeflnjciloaa
open Go.Lg
set_option maxHeartbeats 1600000
set_option maxRecDepth 10000
set_option linter.unusedVariables false
set_option linter.unusedSimpArgs false

def rowFrom (size : Int) : Int → List Int → Bool
  | _, [] => true
  | last, b :: bs => match leI b last with | true => false | false => match leI size b with | true => false | false => rowFrom size b bs
def rowsOk (n : Int) (rows : List (List Int)) : Bool := rows.all fun r => rowFrom n (-1) r
def relOk (n : Int) (rows : List (List Int)) : Bool := leI 0 n && leI n 40 && eqI rows.length n && rowsOk n rows
theorem isSize_spec (n : Int) : FSpec env.P 121 [.int .i64 n] (.bool (leI 0 n && leI n 40)) := by
  refine FSpec_of_code env_ok (fn := Try.f121) Try.func121 rfl Try.call121 _ _ ?_
  ((repeat' (((repeat ((conv => whnf); first | refine brT ?_ | refine brF ?_)); conv => whnf); (refine And.intro ?_ ?_ <;> (intro h; rw [h]; revert h; intro _)))); all_goals ((repeat ((conv => whnf); first | refine brT ?_ | refine brF ?_)); conv => whnf))
  all_goals (refine fin ?_; simp_all)

theorem isRow_spec (r : List Int) (size : Int) : FSpec env.P 151 [rowSl r, .int .i64 size] (.bool (rowFrom size (-1) r)) := by
  refine FSpec_of_code env_ok (fn := Try.f151) Try.func151 rfl Try.call151 _ _ ?_
  ((repeat ((conv => whnf); first | refine brT ?_ | refine brF ?_)); conv => whnf)
  intro hm
  rw [List.length_map] at hm
  ((repeat ((conv => whnf); first | refine brT ?_ | refine brF ?_)); conv => whnf)
  refine loop_rule (α := Nat × Int) (fun x => [(10, .int .i64 (x.1 : Int)), (5, .int .i64 x.2)]) (fun _ => []) (fun x => r.length - x.1) (fun x => x.1 ≤ r.length ∧ rowFrom size (-1) r = rowFrom size x.2 (r.drop x.1)) (0, -1) ⟨Nat.zero_le _, rfl⟩ ?_ ?_
  · refine ⟨?_, trivial, rfl, rfl⟩
    ((repeat ((conv => whnf); refine ⟨rfl, ?_⟩)); trivial)
  rintro ⟨k, l⟩ ⟨hk, he⟩
  ((repeat ((conv => whnf); first | refine brT ?_ | refine brF ?_)); conv => whnf)
  (refine ⟨fun h1 => ?_, fun h1 => ?_⟩ <;> rw [h1])
  · have hlt : k < r.length := by rw [ltI_t] at h1; simp at h1; omega
    rw [List.drop_eq_getElem_cons hlt] at he
    simp only [rowFrom] at he
    have e := step_i hlt hm
    ((repeat ((conv => whnf); first | refine brT ?_ | refine brF ?_)); conv => whnf)
    refine ⟨k, intLV r[k], rfl, by simp [hlt], rfl, ?_⟩
    ((repeat ((conv => whnf); first | refine brT ?_ | refine brF ?_)); conv => whnf)
    (refine ⟨fun h2 => ?_, fun h2 => ?_⟩ <;> rw [h2])
    · rw [h2] at he
      ((repeat ((conv => whnf); first | refine brT ?_ | refine brF ?_)); conv => whnf)
      refine fin ?_
      rw [he]
    rw [h2] at he
    ((repeat ((conv => whnf); first | refine brT ?_ | refine brF ?_)); conv => whnf)
    (refine ⟨fun h3 => ?_, fun h3 => ?_⟩ <;> rw [h3])
    · rw [h3] at he
      ((repeat ((conv => whnf); first | refine brT ?_ | refine brF ?_)); conv => whnf)
      refine fin ?_
      rw [he]
    rw [h3] at he
    ((repeat ((conv => whnf); first | refine brT ?_ | refine brF ?_)); conv => whnf)
    refine round_end (k + 1, r[k]) ⟨hlt, he⟩ (by simp only; omega) ⟨?_, trivial, rfl, rfl⟩
    ((repeat ((conv => whnf); first | refine ⟨e, ?_⟩ | refine ⟨rfl, ?_⟩)); trivial)
  · have h3 : k = r.length := by rw [ltI_f] at h1; simp at h1; omega
    subst h3
    ((repeat ((conv => whnf); first | refine brT ?_ | refine brF ?_)); conv => whnf)
    refine fin ?_
    rw [he, List.drop_length]; rfl

theorem l2Row_spec (r : List Int) (size : Int) : FSpec env.P 149 [rowSl r, .int .i64 size] (.bool (rowFrom size (-1) r)) := by
  refine FSpec_of_code env_ok (fn := Try.f149) Try.func149 rfl Try.call149 _ _ ?_
  ((repeat ((conv => whnf); first | refine brT ?_ | refine brF ?_)); conv => whnf)
  intro hm
  rw [List.length_map] at hm
  ((repeat ((conv => whnf); first | refine brT ?_ | refine brF ?_)); conv => whnf)
  refine loop_rule (α := Nat × Int) (fun x => [(10, .int .i64 (x.1 : Int)), (5, .int .i64 x.2)]) (fun _ => []) (fun x => r.length - x.1) (fun x => x.1 ≤ r.length ∧ rowFrom size (-1) r = rowFrom size x.2 (r.drop x.1)) (0, -1) ⟨Nat.zero_le _, rfl⟩ ?_ ?_
  · refine ⟨?_, trivial, rfl, rfl⟩
    ((repeat ((conv => whnf); refine ⟨rfl, ?_⟩)); trivial)
  rintro ⟨k, l⟩ ⟨hk, he⟩
  ((repeat ((conv => whnf); first | refine brT ?_ | refine brF ?_)); conv => whnf)
  (refine ⟨fun h1 => ?_, fun h1 => ?_⟩ <;> rw [h1])
  · have hlt : k < r.length := by rw [ltI_t] at h1; simp at h1; omega
    rw [List.drop_eq_getElem_cons hlt] at he
    simp only [rowFrom] at he
    have e := step_i hlt hm
    ((repeat ((conv => whnf); first | refine brT ?_ | refine brF ?_)); conv => whnf)
    refine ⟨k, intLV r[k], rfl, by simp [hlt], rfl, ?_⟩
    ((repeat ((conv => whnf); first | refine brT ?_ | refine brF ?_)); conv => whnf)
    (refine ⟨fun h2 => ?_, fun h2 => ?_⟩ <;> rw [h2])
    · rw [h2] at he
      ((repeat ((conv => whnf); first | refine brT ?_ | refine brF ?_)); conv => whnf)
      refine fin ?_
      rw [he]
    rw [h2] at he
    ((repeat ((conv => whnf); first | refine brT ?_ | refine brF ?_)); conv => whnf)
    (refine ⟨fun h3 => ?_, fun h3 => ?_⟩ <;> rw [h3])
    · rw [h3] at he
      ((repeat ((conv => whnf); first | refine brT ?_ | refine brF ?_)); conv => whnf)
      refine fin ?_
      rw [he]
    rw [h3] at he
    ((repeat ((conv => whnf); first | refine brT ?_ | refine brF ?_)); conv => whnf)
    refine round_end (k + 1, r[k]) ⟨hlt, he⟩ (by simp only; omega) ⟨?_, trivial, rfl, rfl⟩
    ((repeat ((conv => whnf); first | refine ⟨e, ?_⟩ | refine ⟨rfl, ?_⟩)); trivial)
  · have h3 : k = r.length := by rw [ltI_f] at h1; simp at h1; omega
    subst h3
    ((repeat ((conv => whnf); first | refine brT ?_ | refine brF ?_)); conv => whnf)
    refine fin ?_
    rw [he, List.drop_length]; rfl

theorem isRelation_impl (n : Int) (rows : List (List Int)) : FSpec env.P 70 [relLV n rows] (.bool (relOk n rows)) := by
  refine FSpec_of_code env_ok (fn := Try.f70) Try.func70 rfl Try.call70 _ _ ?_
  ((repeat ((conv => whnf); first | refine brT ?_ | refine brF ?_)); conv => whnf)
  refine ⟨_, isSize_spec n, ?_⟩
  ((repeat ((conv => whnf); first | refine brT ?_ | refine brF ?_)); conv => whnf)
  (refine ⟨fun h => ?_, fun h => ?_⟩ <;> rw [h])
  · rw [notB_t] at h
    ((repeat ((conv => whnf); first | refine brT ?_ | refine brF ?_)); conv => whnf)
    refine fin ?_
    unfold relOk; rw [h]; rfl
  rw [notB_f] at h
  ((repeat ((conv => whnf); first | refine brT ?_ | refine brF ?_)); conv => whnf)
  intro hm
  rw [List.length_map] at hm
  rw [List.length_map]
  ((repeat ((conv => whnf); first | refine brT ?_ | refine brF ?_)); conv => whnf)
  (refine ⟨fun h0 => ?_, fun h0 => ?_⟩ <;> rw [h0])
  · ((repeat ((conv => whnf); first | refine brT ?_ | refine brF ?_)); conv => whnf)
    refine fin ?_
    rw [notB_t] at h0
    unfold relOk; rw [h, h0]; rfl
  rw [notB_f] at h0
  ((repeat ((conv => whnf); first | refine brT ?_ | refine brF ?_)); conv => whnf)
  intro _
  rw [List.length_map]
  ((repeat ((conv => whnf); first | refine brT ?_ | refine brF ?_)); conv => whnf)
  refine loop_rule (α := Nat) (fun k => [(20, .int .i64 (k : Int))]) (fun _ => [.box (relLV n rows)]) (fun k => rows.length - k) (fun k => k ≤ rows.length ∧ relOk n rows = rowsOk n (rows.drop k)) 0 ⟨Nat.zero_le _, by unfold relOk; rw [h, h0]; rfl⟩ ?_ ?_
  · refine ⟨?_, ⟨rfl, trivial⟩, rfl, rfl⟩
    ((repeat ((conv => whnf); refine ⟨rfl, ?_⟩)); trivial)
  rintro k ⟨hk, he⟩
  ((repeat ((conv => whnf); first | refine brT ?_ | refine brF ?_)); conv => whnf)
  (refine ⟨fun h1 => ?_, fun h1 => ?_⟩ <;> rw [h1])
  · have hlt : k < rows.length := by rw [ltI_t] at h1; omega
    rw [List.drop_eq_getElem_cons hlt] at he
    have e := step_i hlt hm
    ((repeat ((conv => whnf); first | refine brT ?_ | refine brF ?_)); conv => whnf)
    refine ⟨k, rowSl rows[k], rfl, by simp [hlt], rfl, ?_⟩
    ((repeat ((conv => whnf); first | refine brT ?_ | refine brF ?_)); conv => whnf)
    refine ⟨_, isRow_spec rows[k] n, ?_⟩
    ((repeat ((conv => whnf); first | refine brT ?_ | refine brF ?_)); conv => whnf)
    (refine ⟨fun h2 => ?_, fun h2 => ?_⟩ <;> rw [h2])
    · rw [notB_t] at h2
      ((repeat ((conv => whnf); first | refine brT ?_ | refine brF ?_)); conv => whnf)
      refine fin ?_
      rw [he]; unfold rowsOk; rw [List.all_cons, h2]; rfl
    rw [notB_f] at h2
    ((repeat ((conv => whnf); first | refine brT ?_ | refine brF ?_)); conv => whnf)
    refine round_end (k + 1) ⟨hlt, by rw [he]; unfold rowsOk; rw [List.all_cons, h2]; rfl⟩ (by omega) ⟨?_, ⟨rfl, trivial⟩, rfl, rfl⟩
    ((repeat ((conv => whnf); first | refine ⟨e, ?_⟩ | refine ⟨rfl, ?_⟩)); trivial)
  · have h3 : k = rows.length := by rw [ltI_f] at h1; omega
    subst h3
    ((repeat ((conv => whnf); first | refine brT ?_ | refine brF ?_)); conv => whnf)
    refine fin ?_
    rw [he, List.drop_length]; rfl

theorem isRelation_spec (n : Int) (rows : List (List Int)) : FSpec env.P 68 [relLV n rows] (.bool (relOk n rows)) := by
  refine FSpec_of_code env_ok (fn := Try.f68) Try.func68 rfl Try.call68 _ _ ?_
  ((repeat ((conv => whnf); first | refine brT ?_ | refine brF ?_)); conv => whnf)
  refine ⟨_, l1In_spec n 0 40, ?_⟩
  ((repeat ((conv => whnf); first | refine brT ?_ | refine brF ?_)); conv => whnf)
  (refine ⟨fun h => ?_, fun h => ?_⟩ <;> rw [h])
  · rw [notB_t] at h
    ((repeat ((conv => whnf); first | refine brT ?_ | refine brF ?_)); conv => whnf)
    refine fin ?_
    unfold relOk; rw [h]; rfl
  rw [notB_f] at h
  ((repeat ((conv => whnf); first | refine brT ?_ | refine brF ?_)); conv => whnf)
  intro hm
  rw [List.length_map] at hm
  rw [List.length_map]
  ((repeat ((conv => whnf); first | refine brT ?_ | refine brF ?_)); conv => whnf)
  (refine ⟨fun h0 => ?_, fun h0 => ?_⟩ <;> rw [h0])
  · ((repeat ((conv => whnf); first | refine brT ?_ | refine brF ?_)); conv => whnf)
    refine fin ?_
    rw [notB_t] at h0
    unfold relOk; rw [h, h0]; rfl
  rw [notB_f] at h0
  ((repeat ((conv => whnf); first | refine brT ?_ | refine brF ?_)); conv => whnf)
  intro _
  rw [List.length_map]
  ((repeat ((conv => whnf); first | refine brT ?_ | refine brF ?_)); conv => whnf)
  refine loop_rule (α := Nat) (fun k => [(20, .int .i64 (k : Int))]) (fun _ => [.box (relLV n rows)]) (fun k => rows.length - k) (fun k => k ≤ rows.length ∧ relOk n rows = rowsOk n (rows.drop k)) 0 ⟨Nat.zero_le _, by unfold relOk; rw [h, h0]; rfl⟩ ?_ ?_
  · refine ⟨?_, ⟨rfl, trivial⟩, rfl, rfl⟩
    ((repeat ((conv => whnf); refine ⟨rfl, ?_⟩)); trivial)
  rintro k ⟨hk, he⟩
  ((repeat ((conv => whnf); first | refine brT ?_ | refine brF ?_)); conv => whnf)
  (refine ⟨fun h1 => ?_, fun h1 => ?_⟩ <;> rw [h1])
  · have hlt : k < rows.length := by rw [ltI_t] at h1; omega
    rw [List.drop_eq_getElem_cons hlt] at he
    have e := step_i hlt hm
    ((repeat ((conv => whnf); first | refine brT ?_ | refine brF ?_)); conv => whnf)
    refine ⟨k, rowSl rows[k], rfl, by simp [hlt], rfl, ?_⟩
    ((repeat ((conv => whnf); first | refine brT ?_ | refine brF ?_)); conv => whnf)
    refine ⟨_, l2Row_spec rows[k] n, ?_⟩
    ((repeat ((conv => whnf); first | refine brT ?_ | refine brF ?_)); conv => whnf)
    (refine ⟨fun h2 => ?_, fun h2 => ?_⟩ <;> rw [h2])
    · rw [notB_t] at h2
      ((repeat ((conv => whnf); first | refine brT ?_ | refine brF ?_)); conv => whnf)
      refine fin ?_
      rw [he]; unfold rowsOk; rw [List.all_cons, h2]; rfl
    rw [notB_f] at h2
    ((repeat ((conv => whnf); first | refine brT ?_ | refine brF ?_)); conv => whnf)
    refine round_end (k + 1) ⟨hlt, by rw [he]; unfold rowsOk; rw [List.all_cons, h2]; rfl⟩ (by omega) ⟨?_, ⟨rfl, trivial⟩, rfl, rfl⟩
    ((repeat ((conv => whnf); first | refine ⟨e, ?_⟩ | refine ⟨rfl, ?_⟩)); trivial)
  · have h3 : k = rows.length := by rw [ltI_f] at h1; omega
    subst h3
    ((repeat ((conv => whnf); first | refine brT ?_ | refine brF ?_)); conv => whnf)
    refine fin ?_
    rw [he, List.drop_length]; rfl

end Go.Proofs.Ytfdjeflnjciloaa
