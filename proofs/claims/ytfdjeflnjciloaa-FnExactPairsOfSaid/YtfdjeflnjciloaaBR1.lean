/- Contracts of functions of the program and of its model, told over readings. -/
import Derived.Test.YtfdjeflnjciloaaBM1
import Derived.Test.YtfdjeflnjciloaaBU1
namespace Go.Proofs.Ytfdjeflnjciloaa
open Go.Lg
set_option maxHeartbeats 1600000
set_option maxRecDepth 10000
set_option linter.unusedVariables false
set_option linter.unusedSimpArgs false

/-- Rows of integers, lent. -/
def rowSl (r : List Int) : LV := .sl (r.map intLV)
/-- Rows of integers, owned. -/
def rowOw (r : List Int) : LV := .own 3 1 (r.map intLV)
theorem dms_rows : ∀ rows : List (List Int), dms (rows.map rowOw) = rows.map rowSl
  | [] => rfl
  | r :: rs => by simp only [List.map_cons, dms, dms_rows rs]; rfl

/-- laws.szIntS -/
def szN (l : Int) (n : Nat) : Int := match ltI (IntKind.i64.wrap (l - (n : Int))) 0 with | true => -1 | false => IntKind.i64.wrap (l - (n : Int))
theorem szIntS_spec (r : List Int) (l : Int) : FSpec env.P 187 [rowSl r, .int .i64 l] (.int .i64 (szN l r.length)) := by
  refine FSpec_of_code env_ok (fn := Try.f187) Try.func187 rfl Try.call187 _ _ ?_
  ((repeat ((conv => whnf); first | refine brT ?_ | refine brF ?_)); conv => whnf)
  intro hm
  rw [List.length_map]
  ((repeat ((conv => whnf); first | refine brT ?_ | refine brF ?_)); conv => whnf)
  (refine ⟨fun h => ?_, fun h => ?_⟩ <;> rw [h])
  · ((repeat ((conv => whnf); first | refine brT ?_ | refine brF ?_)); conv => whnf); exact ⟨rfl, by unfold szN; rw [h], List.nodup_nil⟩
  · ((repeat ((conv => whnf); first | refine brT ?_ | refine brF ?_)); conv => whnf); exact ⟨rfl, by unfold szN; rw [h], List.nodup_nil⟩

def szRs : Int → List (List Int) → Int
  | l, [] => l
  | l, r :: rs => match ltI (szN l r.length) 0 with | true => -1 | false => szRs (szN l r.length) rs
def szRows (l : Int) (rows : List (List Int)) : Int := match ltI (szN l rows.length) 0 with | true => -1 | false => szRs (szN l rows.length) rows

theorem szIntSS_spec (rows : List (List Int)) (l : Int) : FSpec env.P 147 [.sl (rows.map rowSl), .int .i64 l] (.int .i64 (szRows l rows)) := by
  refine FSpec_of_code env_ok (fn := Try.f147) Try.func147 rfl Try.call147 _ _ ?_
  ((repeat ((conv => whnf); first | refine brT ?_ | refine brF ?_)); conv => whnf)
  intro hm
  rw [List.length_map] at hm
  rw [List.length_map]
  ((repeat ((conv => whnf); first | refine brT ?_ | refine brF ?_)); conv => whnf)
  (refine ⟨fun h => ?_, fun h => ?_⟩ <;> rw [h])
  · ((repeat ((conv => whnf); first | refine brT ?_ | refine brF ?_)); conv => whnf); exact ⟨rfl, by unfold szRows szN; simp only [h, show ltI (-1) 0 = true by rw [ltI_t]; decide], List.nodup_nil⟩
  have e0 : szRows l rows = szRs (IntKind.i64.wrap (l - (rows.length : Int))) rows := by unfold szRows szN; simp only [h]
  ((repeat ((conv => whnf); first | refine brT ?_ | refine brF ?_)); conv => whnf)
  refine loop_rule (α := Nat × Int) (fun x => [(5, .int .i64 (x.1 : Int)), (1, .int .i64 x.2)]) (fun _ => []) (fun x => rows.length - x.1) (fun x => x.1 ≤ rows.length ∧ szRows l rows = szRs x.2 (rows.drop x.1)) (0, IntKind.i64.wrap (l - (rows.length : Int))) ⟨Nat.zero_le _, by simpa using e0⟩ ?_ ?_
  · refine ⟨?_, trivial, rfl, rfl⟩
    ((repeat ((conv => whnf); refine ⟨rfl, ?_⟩)); trivial)
  rintro ⟨k, m⟩ ⟨hk, he⟩
  ((repeat ((conv => whnf); first | refine brT ?_ | refine brF ?_)); conv => whnf)
  intro _
  rw [List.length_map]
  ((repeat ((conv => whnf); first | refine brT ?_ | refine brF ?_)); conv => whnf)
  (refine ⟨fun h1 => ?_, fun h1 => ?_⟩ <;> rw [h1])
  · have hlt : k < rows.length := by rw [ltI_t] at h1; omega
    rw [List.drop_eq_getElem_cons hlt] at he
    simp only [szRs] at he
    ((repeat ((conv => whnf); first | refine brT ?_ | refine brF ?_)); conv => whnf)
    refine ⟨k, rowSl rows[k], rfl, by simp [hlt], rfl, ?_⟩
    ((repeat ((conv => whnf); first | refine brT ?_ | refine brF ?_)); conv => whnf)
    refine ⟨_, szIntS_spec rows[k] m, ?_⟩
    ((repeat ((conv => whnf); first | refine brT ?_ | refine brF ?_)); conv => whnf)
    (refine ⟨fun h2 => ?_, fun h2 => ?_⟩ <;> rw [h2])
    · ((repeat ((conv => whnf); first | refine brT ?_ | refine brF ?_)); conv => whnf)
      rw [h2] at he
      exact ⟨rfl, he.symm, List.nodup_nil⟩
    · ((repeat ((conv => whnf); first | refine brT ?_ | refine brF ?_)); conv => whnf)
      rw [h2] at he
      refine round_end (k + 1, szN m rows[k].length) ⟨hlt, he⟩ (by simp only; omega) ⟨?_, trivial, rfl, rfl⟩
      have e := step_i hlt hm
      ((repeat ((conv => whnf); first | refine ⟨e, ?_⟩ | refine ⟨rfl, ?_⟩)); trivial)
  · have h3 : k = rows.length := by rw [ltI_f] at h1; omega
    subst h3
    ((repeat ((conv => whnf); first | refine brT ?_ | refine brF ?_)); conv => whnf)
    refine ⟨rfl, ?_, List.nodup_nil⟩
    rw [he, List.drop_length]; rfl

def relLV (n : Int) (rows : List (List Int)) : LV := .st [.int .i64 n, .sl (rows.map rowSl)]
theorem szRelation_spec (n : Int) (rows : List (List Int)) (l : Int) : FSpec env.P 67 [relLV n rows, .int .i64 l] (.int .i64 (match ltI (szRows l rows) 0 with | true => -1 | false => szRows l rows)) := by
  refine FSpec_of_code env_ok (fn := Try.f67) Try.func67 rfl Try.call67 _ _ ?_
  ((repeat ((conv => whnf); first | refine brT ?_ | refine brF ?_)); conv => whnf)
  refine ⟨_, szIntSS_spec rows l, ?_⟩
  ((repeat ((conv => whnf); first | refine brT ?_ | refine brF ?_)); conv => whnf)
  (refine ⟨fun h => ?_, fun h => ?_⟩ <;> rw [h])
  · ((repeat ((conv => whnf); first | refine brT ?_ | refine brF ?_)); conv => whnf); exact ⟨rfl, rfl, List.nodup_nil⟩
  · ((repeat ((conv => whnf); first | refine brT ?_ | refine brF ?_)); conv => whnf); exact ⟨rfl, rfl, List.nodup_nil⟩
end Go.Proofs.Ytfdjeflnjciloaa
