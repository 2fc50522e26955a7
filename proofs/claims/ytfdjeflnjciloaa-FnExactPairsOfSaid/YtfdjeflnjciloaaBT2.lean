/- Contracts of functions of the program and of its model, told over readings. -/
import Derived.Test.YtfdjeflnjciloaaBEnv
namespace Go.Proofs.Ytfdjeflnjciloaa
open Go.Lg
set_option maxHeartbeats 400000
set_option linter.unusedVariables false
set_option linter.unusedSimpArgs false

theorem l1In_spec (x a b : Int) : FSpec env.P 148 [.int .i64 x, .int .i64 a, .int .i64 b] (.bool (leI a x && leI x b)) := by
  refine FSpec_of_code env_ok (fn := Try.f148) Try.func148 rfl Try.call148 _ _ ?_
  conv => whnf
  refine ⟨fun h => ?_, fun h => ?_⟩ <;> rw [h] <;> conv => whnf
  · repeat (refine brT ?_; conv => whnf)
    exact fin rfl
  · repeat (refine brF ?_; conv => whnf)
    exact fin rfl

def low (c : UInt8) : Bool := !(ltI (c.toNat : Int) 97 || ltI 122 (c.toNat : Int))
def lowTo (s : ByteArray) (k : Nat) : Prop := ∀ j (h : j < s.size), j < k → low s[j] = true
def allLow (s : ByteArray) : Bool := s.data.toList.all low
def isName (s : ByteArray) : Bool := allLow s && (leI 1 (s.size : Int) && leI (s.size : Int) 12)

theorem lowTo.succ {s : ByteArray} {k : Nat} (h : lowTo s k) (hk : k < s.size) (hl : low s[k] = true) : lowTo s (k + 1) := by
  intro j hj hjk
  by_cases e : j = k
  · subst e; exact hl
  · exact h j hj (by omega)
theorem lowTo.all {s : ByteArray} {k : Nat} (h : lowTo s k) (hk : s.size ≤ k) : allLow s = true := by
  unfold allLow
  rw [List.all_eq_true]
  intro c hc
  obtain ⟨j, hj, rfl⟩ := List.mem_iff_getElem.1 hc
  have hj' : j < s.size := by simpa using hj
  exact h j hj' (by omega)
theorem isName_no {s : ByteArray} {k : Nat} (hk : k < s.size) (hl : low s[k] = false) : isName s = false := by
  have : allLow s = false := by
    unfold allLow
    rw [List.all_eq_false]
    exact ⟨s[k], by exact Array.getElem_mem_toList _, by simp [hl]⟩
  unfold isName; rw [this]; rfl

theorem isName_spec (s : ByteArray) : FSpec env.P 197 [.str s] (.bool (isName s)) := by
  refine FSpec_of_code env_ok (fn := Try.f197) Try.func197 rfl Try.call197 _ _ ?_
  conv => whnf
  refine loop_rule (α := Nat) (fun k => [(3, .int .i64 (k : Int))]) (fun _ => []) (fun k => s.size - k) (fun k => k ≤ s.size ∧ lowTo s k) 0 ⟨Nat.zero_le _, fun _ _ h => absurd h (Nat.not_lt_zero _)⟩ ?_ ?_
  · refine ⟨?_, trivial, rfl, rfl⟩
    repeat ((conv => whnf); refine ⟨rfl, ?_⟩)
    trivial
  · rintro k ⟨hk, hlow⟩
    conv => whnf
    intro hs
    conv => whnf
    refine ⟨fun h => ?_, fun h => ?_⟩
    · rw [h]
      have hlt : k < s.size := by rw [ltI_t] at h; omega
      conv => whnf
      refine ⟨k, hlt, rfl, ?_⟩
      conv => whnf
      refine ⟨fun h1 => ?_, fun h1 => ?_⟩
      · rw [h1]
        have hno : false = isName s := (isName_no hlt (by simp [low, h1])).symm
        repeat ((conv => whnf); first | refine brT ?_ | refine brF ?_)
        exact fin hno
      · rw [h1]
        repeat ((conv => whnf); first | refine brT ?_ | refine brF ?_)
        refine ⟨k, hlt, rfl, ?_⟩
        repeat ((conv => whnf); first | refine brT ?_ | refine brF ?_)
        refine ⟨fun h2 => ?_, fun h2 => ?_⟩
        · rw [h2]
          have hno : false = isName s := (isName_no hlt (by simp [low, h1, h2])).symm
          repeat ((conv => whnf); first | refine brT ?_ | refine brF ?_)
          exact fin hno
        · rw [h2]
          have hl := hlow.succ hlt (by simp [low, h1, h2])
          conv => whnf
          refine round_end (k + 1) ⟨hlt, hl⟩ (by omega) ⟨?_, trivial, rfl, rfl⟩
          have e := step_i hlt hs
          repeat ((conv => whnf); first | refine ⟨e, ?_⟩ | refine ⟨rfl, ?_⟩)
          trivial
    · rw [h]
      rw [ltI_f] at h
      conv => whnf
      intro _
      conv => whnf
      refine ⟨_, l1In_spec _ _ _, ?_⟩
      conv => whnf
      refine fin ?_
      unfold isName
      rw [hlow.all (by omega)]
      rfl
end Go.Proofs.Ytfdjeflnjciloaa
