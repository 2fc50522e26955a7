/- Contracts of functions of the program and of its model, told over readings. -/
import Derived.Test.YtfdjeflnjciloaaBT8
namespace Go.Proofs.Ytfdjeflnjciloaa
open Go.Lg
set_option maxHeartbeats 400000
set_option maxRecDepth 10000
set_option linter.unusedVariables false
set_option linter.unusedSimpArgs false

/-- The first of that name. -/
def findFrom (n : ByteArray) : Nat → List Per → Option Nat
  | _, [] => none
  | i, p :: ps => match eqS p.name n with | true => some i | false => findFrom n (i + 1) ps
def foundLV : Option Nat → LV
  | some i => .tup [.int .i64 (i : Int), .bool true]
  | none => .tup [.int .i64 0, .bool false]

theorem indexOfName_spec (ps : List Per) (n : ByteArray) : FSpec env.P 199 [.sl (ps.map Per.lv), .str n] (foundLV (findFrom n 0 ps)) := by
  refine FSpec_of_code env_ok (fn := Try.f199) Try.func199 rfl Try.call199 _ _ ?_
  ((repeat ((conv => whnf); first | refine brT ?_ | refine brF ?_)); conv => whnf)
  intro hp
  have hp' : ps.length ≤ Go.maxLen := by simpa using hp
  ((repeat ((conv => whnf); first | refine brT ?_ | refine brF ?_)); conv => whnf)
  refine loop_rule (α := Nat) (fun k => [(10, .int .i64 (k : Int))]) (fun k => []) (fun k => ps.length - k) (fun k => k ≤ ps.length ∧ findFrom n k (ps.drop k) = findFrom n 0 ps) 0 ⟨Nat.zero_le _, rfl⟩ ?_ ?_
  · refine ⟨?_, trivial, rfl, rfl⟩
    repeat ((conv => whnf); refine ⟨rfl, ?_⟩)
    trivial
  rintro k ⟨hk, hf⟩
  ((repeat ((conv => whnf); first | refine brT ?_ | refine brF ?_)); conv => whnf)
  refine ⟨fun h1 => ?_, fun h1 => ?_⟩ <;> rw [h1]
  · have hlt : k < ps.length := by rw [ltI_t] at h1; simp at h1; omega
    have hd : ps.drop k = ps[k] :: ps.drop (k + 1) := List.drop_eq_getElem_cons hlt
    rw [hd] at hf
    simp only [findFrom] at hf
    ((repeat ((conv => whnf); first | refine brT ?_ | refine brF ?_)); conv => whnf)
    refine ⟨k, ps[k].lv, rfl, by simp [hlt], rfl, ?_⟩
    ((repeat ((conv => whnf); first | refine brT ?_ | refine brF ?_)); conv => whnf)
    refine ⟨fun h2 => ?_, fun h2 => ?_⟩ <;> rw [h2]
    · rw [h2] at hf
      rw [← hf]
      ((repeat ((conv => whnf); first | refine brT ?_ | refine brF ?_)); conv => whnf)
      repeat ((conv => whnf); refine ⟨rfl, ?_⟩)
      exact List.nodup_nil
    · rw [h2] at hf
      ((repeat ((conv => whnf); first | refine brT ?_ | refine brF ?_)); conv => whnf)
      refine round_end (k + 1) ⟨hlt, hf⟩ (by omega) ⟨?_, trivial, rfl, rfl⟩
      have e := step_i hlt hp'
      repeat ((conv => whnf); first | refine ⟨e, ?_⟩ | refine ⟨rfl, ?_⟩)
      trivial
  · have h3 : ps.length ≤ k := by rw [ltI_f] at h1; simp at h1; omega
    rw [List.drop_eq_nil_of_le h3] at hf
    simp only [findFrom] at hf
    rw [← hf]
    ((repeat ((conv => whnf); first | refine brT ?_ | refine brF ?_)); conv => whnf)
    repeat ((conv => whnf); refine ⟨rfl, ?_⟩)
    exact List.nodup_nil

end Go.Proofs.Ytfdjeflnjciloaa