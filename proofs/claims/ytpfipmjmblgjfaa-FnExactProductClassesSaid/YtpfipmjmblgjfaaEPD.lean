/- Contracts of functions of the program and of its model, told over readings. -/
import Derived.Test.YtpfipmjmblgjfaaEPC
namespace Go.Proofs.Ytpfipmjmblgjfaa
open Go.Lg Go.Pm
set_option maxHeartbeats 3200000
set_option maxRecDepth 10000
set_option linter.unusedVariables false
set_option linter.unusedSimpArgs false

/-! ### No class marries itself -/
def noFix (w : List Int) : Nat → Bool
  | 0 => true
  | k + 1 => noFix w k && notB (eqI (w.getD k 0) (k : Int))
theorem noFix_no {w : List Int} : ∀ {n k : Nat}, k < n → eqI (w.getD k 0) (k : Int) = true → noFix w n = false
  | n + 1, k, h, e => by
    simp only [noFix]
    by_cases hk : k = n
    · subst hk; rw [e]; simp [notB]
    · rw [noFix_no (by omega) e]; rfl
def fbB (w c : List Int) : Bool := clsB w c && noFix w w.length
theorem forbids_impl (w c : List Int) (hw : w.length ≤ 1048576) (hc : c.length ≤ 1048576) : FSpec env.P 40 [clsLV w c] (.bool (fbB w c)) := by
  refine FSpec_of_code env_ok (fn := Try.f40) Try.func40 rfl Try.call40 _ _ ?_
  have hp' : w.length ≤ Go.maxLen := by unfold Go.maxLen; omega
  ((repeat ((conv => whnf); first | refine brT ?_ | refine brF ?_)); conv => whnf)
  refine ⟨_, isClasses_impl w c hw hc, ?_⟩
  ((repeat ((conv => whnf); first | refine brT ?_ | refine brF ?_)); conv => whnf)
  (refine ⟨fun h => ?_, fun h => ?_⟩ <;> rw [h])
  · rw [notB_t] at h
    ((repeat ((conv => whnf); first | refine brT ?_ | refine brF ?_)); conv => whnf); refine fin ?_; unfold fbB; rw [h]; rfl
  rw [notB_f] at h
  unfold fbB
  rw [h]
  ((repeat ((conv => whnf); first | refine brT ?_ | refine brF ?_)); conv => whnf)
  intro _
  ((repeat ((conv => whnf); first | refine brT ?_ | refine brF ?_)); conv => whnf)
  refine loop_rule (α := Nat) (fun k => [(11, .int .i64 (k : Int))]) (fun _ => [.box (clsLV w c)]) (fun k => w.length - k) (fun k => k ≤ w.length ∧ noFix w k = true) 0 ⟨Nat.zero_le _, rfl⟩ ?_ ?_
  · refine ⟨?_, ⟨rfl, trivial⟩, rfl, rfl⟩
    ((repeat ((conv => whnf); refine ⟨rfl, ?_⟩)); trivial)
  rintro k ⟨hk, hn⟩
  ((repeat ((conv => whnf); first | refine brT ?_ | refine brF ?_)); conv => whnf)
  (refine ⟨fun h1 => ?_, fun h1 => ?_⟩ <;> rw [h1])
  · have hlt : k < w.length := by rw [ltI_t] at h1; simp at h1; omega
    have e := step_i hlt hp'
    ((repeat ((conv => whnf); first | refine brT ?_ | refine brF ?_)); conv => whnf)
    refine ⟨k, intLV w[k], rfl, by simp [hlt], rfl, ?_⟩
    ((repeat ((conv => whnf); first | refine brT ?_ | refine brF ?_)); conv => whnf)
    have eg : w.getD k 0 = w[k] := getD_lt hlt
    (refine ⟨fun h2 => ?_, fun h2 => ?_⟩ <;> rw [h2])
    · ((repeat ((conv => whnf); first | refine brT ?_ | refine brF ?_)); conv => whnf)
      refine fin ?_
      rw [noFix_no hlt (by rw [eg]; exact h2)]; rfl
    · ((repeat ((conv => whnf); first | refine brT ?_ | refine brF ?_)); conv => whnf)
      refine round_end (k + 1) ⟨hlt, by simp only [noFix]; rw [hn, eg, h2]; simp [notB]⟩ (by omega) ⟨?_, ⟨rfl, trivial⟩, rfl, rfl⟩
      ((repeat ((conv => whnf); first | refine ⟨e, ?_⟩ | refine ⟨rfl, ?_⟩)); trivial)
  · have h4 : k = w.length := by rw [ltI_f] at h1; simp at h1; omega
    subst h4
    ((repeat ((conv => whnf); first | refine brT ?_ | refine brF ?_)); conv => whnf)
    refine fin ?_
    rw [hn]; rfl
theorem forbids_spec (w c : List Int) (hw : w.length ≤ 1048576) (hc : c.length ≤ 1048576) : FSpec env.P 39 [clsLV w c] (.bool (fbB w c)) := by
  refine FSpec_of_code env_ok (fn := Try.f39) Try.func39 rfl Try.call39 _ _ ?_
  have hp' : w.length ≤ Go.maxLen := by unfold Go.maxLen; omega
  unfold fbB
  ((repeat ((conv => whnf); first | refine brT ?_ | refine brF ?_)); conv => whnf)
  intro _
  ((repeat ((conv => whnf); first | refine brT ?_ | refine brF ?_)); conv => whnf)
  refine loop_rule (α := Nat) (fun k => [(8, .int .i64 (k : Int))]) (fun _ => [.box (clsLV w c)]) (fun k => w.length - k) (fun k => k ≤ w.length ∧ noFix w k = true) 0 ⟨Nat.zero_le _, rfl⟩ ?_ ?_
  · refine ⟨?_, ⟨rfl, trivial⟩, rfl, rfl⟩
    ((repeat ((conv => whnf); refine ⟨rfl, ?_⟩)); trivial)
  rintro k ⟨hk, hn⟩
  ((repeat ((conv => whnf); first | refine brT ?_ | refine brF ?_)); conv => whnf)
  (refine ⟨fun h1 => ?_, fun h1 => ?_⟩ <;> rw [h1])
  · have hlt : k < w.length := by rw [ltI_t] at h1; simp at h1; omega
    have e := step_i hlt hp'
    ((repeat ((conv => whnf); first | refine brT ?_ | refine brF ?_)); conv => whnf)
    refine ⟨k, intLV w[k], rfl, by simp [hlt], rfl, ?_⟩
    ((repeat ((conv => whnf); first | refine brT ?_ | refine brF ?_)); conv => whnf)
    have eg : w.getD k 0 = w[k] := getD_lt hlt
    (refine ⟨fun h2 => ?_, fun h2 => ?_⟩ <;> rw [h2])
    · ((repeat ((conv => whnf); first | refine brT ?_ | refine brF ?_)); conv => whnf)
      refine fin ?_
      rw [noFix_no hlt (by rw [eg]; exact h2)]; simp
    · ((repeat ((conv => whnf); first | refine brT ?_ | refine brF ?_)); conv => whnf)
      refine round_end (k + 1) ⟨hlt, by simp only [noFix]; rw [hn, eg, h2]; simp [notB]⟩ (by omega) ⟨?_, ⟨rfl, trivial⟩, rfl, rfl⟩
      ((repeat ((conv => whnf); first | refine ⟨e, ?_⟩ | refine ⟨rfl, ?_⟩)); trivial)
  · have h4 : k = w.length := by rw [ltI_f] at h1; simp at h1; omega
    subst h4
    ((repeat ((conv => whnf); first | refine brT ?_ | refine brF ?_)); conv => whnf)
    refine ⟨_, isClasses_spec w c hw hc, ?_⟩
    ((repeat ((conv => whnf); first | refine brT ?_ | refine brF ?_)); conv => whnf)
    refine fin ?_
    rw [hn]; simp
/-! ### Samples -/
def kari : ByteArray := ⟨#[107, 97, 114, 105, 101, 114, 97]⟩
def circ : ByteArray := ⟨#[99, 105, 114, 99, 108, 101]⟩
def moie : ByteArray := ⟨#[109, 111, 105, 101, 116, 105, 101, 115]⟩
def smpW (s : ByteArray) : List Int := match eqS s kari with | true => [1, 0, 3, 2] | false => match eqS s circ with | true => [1, 2, 3, 0] | false => match eqS s moie with | true => [1, 0] | false => []
def smpC (s : ByteArray) : List Int := match eqS s kari with | true => [3, 2, 1, 0] | false => match eqS s circ with | true => [0, 1, 2, 3] | false => match eqS s moie with | true => [0, 1] | false => []
theorem sample_impl (s : ByteArray) (hs : s.size ≤ Go.maxLen) : HSpec env.P 48 [.str s] [] (clsHS ((smpW s).map intLV).length ((smpC s).map intLV).length) (clsH (smpW s) (smpC s)) := by
  refine HSpec_of_code (E := env.x [] 0) env_ok.x (fn := Try.f48) Try.func48 rfl Try.call48 _ _ _ _ ?_
  ((repeat ((conv => whnf); first | refine brT ?_ | refine brF ?_)); conv => whnf)
  (refine ⟨fun h => ?_, fun h => ?_⟩ <;> rw [h])
  · unfold smpW smpC
    rw [show eqS s kari = true from h]
    ((repeat ((conv => whnf); first | refine brT ?_ | refine brF ?_)); conv => whnf)
    exact ⟨[clsHS 4 4], rfl, rfl, .inr ⟨[.old 1, .old 2], ⟨rfl, rfl, trivial⟩, ⟨rfl, rfl, rfl, rfl, trivial⟩, rfl⟩⟩
  ((repeat ((conv => whnf); first | refine brT ?_ | refine brF ?_)); conv => whnf)
  (refine ⟨fun h2 => ?_, fun h2 => ?_⟩ <;> rw [h2])
  · unfold smpW smpC
    rw [show eqS s kari = false from h, show eqS s circ = true from h2]
    ((repeat ((conv => whnf); first | refine brT ?_ | refine brF ?_)); conv => whnf)
    exact ⟨[clsHS 4 4], rfl, rfl, .inr ⟨[.old 1, .old 2], ⟨rfl, rfl, trivial⟩, ⟨rfl, rfl, rfl, rfl, trivial⟩, rfl⟩⟩
  ((repeat ((conv => whnf); first | refine brT ?_ | refine brF ?_)); conv => whnf)
  (refine ⟨fun h3 => ?_, fun h3 => ?_⟩ <;> rw [h3])
  · unfold smpW smpC
    rw [show eqS s kari = false from h, show eqS s circ = false from h2, show eqS s moie = true from h3]
    ((repeat ((conv => whnf); first | refine brT ?_ | refine brF ?_)); conv => whnf)
    exact ⟨[clsHS 2 2], rfl, rfl, .inr ⟨[.old 1, .old 2], ⟨rfl, rfl, trivial⟩, ⟨rfl, rfl, rfl, rfl, trivial⟩, rfl⟩⟩
  unfold smpW smpC
  rw [show eqS s kari = false from h, show eqS s circ = false from h2, show eqS s moie = false from h3]
  ((repeat ((conv => whnf); first | refine brT ?_ | refine brF ?_)); conv => whnf)
  exact ⟨[clsHS 0 0], rfl, rfl, .nl [.tmp 0 [0] false 3 1, .tmp 0 [1] false 3 1] [.old 1, .old 2] ⟨⟨rfl, rfl, trivial⟩, ⟨rfl, rfl, rfl, rfl, trivial⟩, rfl⟩⟩
theorem sample_spec (s : ByteArray) (hs : s.size ≤ Go.maxLen) : HSpec env.P 47 [.str s] [] (clsHS ((smpW s).map intLV).length ((smpC s).map intLV).length) (clsH (smpW s) (smpC s)) := by
  refine HSpec_of_code (E := env.x [] 0) env_ok.x (fn := Try.f47) Try.func47 rfl Try.call47 _ _ _ _ ?_
  ((repeat ((conv => whnf); first | refine brT ?_ | refine brF ?_)); conv => whnf)
  (refine ⟨fun h => ?_, fun h => ?_⟩ <;> rw [h])
  · unfold smpW smpC
    rw [show eqS s kari = true from h]
    ((repeat ((conv => whnf); first | refine brT ?_ | refine brF ?_)); conv => whnf)
    exact ⟨[clsHS 4 4], rfl, rfl, .inr ⟨[.old 1, .old 2], ⟨rfl, rfl, trivial⟩, ⟨rfl, rfl, rfl, rfl, trivial⟩, rfl⟩⟩
  ((repeat ((conv => whnf); first | refine brT ?_ | refine brF ?_)); conv => whnf)
  (refine ⟨fun h2 => ?_, fun h2 => ?_⟩ <;> rw [h2])
  · unfold smpW smpC
    rw [show eqS s kari = false from h, show eqS s circ = true from h2]
    ((repeat ((conv => whnf); first | refine brT ?_ | refine brF ?_)); conv => whnf)
    exact ⟨[clsHS 4 4], rfl, rfl, .inr ⟨[.old 1, .old 2], ⟨rfl, rfl, trivial⟩, ⟨rfl, rfl, rfl, rfl, trivial⟩, rfl⟩⟩
  ((repeat ((conv => whnf); first | refine brT ?_ | refine brF ?_)); conv => whnf)
  (refine ⟨fun h3 => ?_, fun h3 => ?_⟩ <;> rw [h3])
  · unfold smpW smpC
    rw [show eqS s kari = false from h, show eqS s circ = false from h2, show eqS s moie = true from h3]
    ((repeat ((conv => whnf); first | refine brT ?_ | refine brF ?_)); conv => whnf)
    exact ⟨[clsHS 2 2], rfl, rfl, .inr ⟨[.old 1, .old 2], ⟨rfl, rfl, trivial⟩, ⟨rfl, rfl, rfl, rfl, trivial⟩, rfl⟩⟩
  unfold smpW smpC
  rw [show eqS s kari = false from h, show eqS s circ = false from h2, show eqS s moie = false from h3]
  ((repeat ((conv => whnf); first | refine brT ?_ | refine brF ?_)); conv => whnf)
  exact ⟨[clsHS 0 0], rfl, rfl, .nl [.tmp 0 [0] false 3 1, .tmp 0 [1] false 3 1] [.old 1, .old 2] ⟨⟨rfl, rfl, trivial⟩, ⟨rfl, rfl, rfl, rfl, trivial⟩, rfl⟩⟩
theorem smp_len (s : ByteArray) : (smpW s).length ≤ 4 ∧ (smpC s).length ≤ 4 := by
  unfold smpW smpC
  cases eqS s kari <;> cases eqS s circ <;> cases eqS s moie <;> simp
end Go.Proofs.Ytpfipmjmblgjfaa

namespace Go.Proofs.Ytpfipmjmblgjfaa
open Go.Lg Go.Pm
set_option maxHeartbeats 6400000
set_option maxRecDepth 10000
set_option linter.unusedVariables false
set_option linter.unusedSimpArgs false

theorem cls_f {f : FuncId} {args : List LV} {w c : List Int} (h : HSpec env.P f args [] (clsHS (w.map intLV).length (c.map intLV).length) (clsH w c)) : FSpec env.P f args (.st [rowOw w, rowOw c]) :=
  FSpec_of_HSpec h (by unfold rowOw clsHS clsH; simp [exW, exsW])
theorem flat_cls (w c : List Int) : flatT (.st [rowOw w, rowOw c]) = true := by simp [flatT, flatB, rowOw, flatsB, flats_ints]
theorem law_isClasses (w c : List Int) (hm : w.length ≤ Go.maxLen ∧ c.length ≤ Go.maxLen) : FSpec env.P 6 [clsLV w c] (.bool true) := by
  refine FSpec_of_code (E := env.x [36] 0) env_ok.x (fn := Try.f6) Try.func6 rfl Try.call6 _ _ ?_
  ((repeat ((conv => whnf); first | refine brT ?_ | refine brF ?_)); conv => whnf)
  refine ⟨_, szClasses_spec w c _, ?_⟩
  ((repeat ((conv => whnf); first | refine brT ?_ | refine brF ?_)); conv => whnf)
  (refine ⟨fun h => ?_, fun h => ?_⟩ <;> rw [h])
  · ((repeat ((conv => whnf); first | refine brT ?_ | refine brF ?_)); conv => whnf); exact fin rfl
  rw [ltI_f] at h
  obtain ⟨-, hs⟩ := szC_ok (by omega) (by omega) hm.1 hm.2 h
  ((repeat ((conv => whnf); first | refine brT ?_ | refine brF ?_)); conv => whnf)
  refine ⟨[], _, _, _, _, toClasses_h w c (by omega) (by omega), rfl, rfl, rfl, trivial, ?_⟩
  ((repeat ((conv => whnf); first | refine brT ?_ | refine brF ?_)); conv => whnf)
  refine ⟨rfl, ?_⟩
  ((repeat ((conv => whnf); first | refine brT ?_ | refine brF ?_)); conv => whnf)
  refine ⟨rfl, ?_⟩
  ((repeat ((conv => whnf); first | refine brT ?_ | refine brF ?_)); conv => whnf)
  refine ⟨_, isClasses_spec w c (by omega) (by omega), ?_⟩
  ((repeat ((conv => whnf); first | refine brT ?_ | refine brF ?_)); conv => whnf)
  refine ⟨[], _, _, _, _, toClasses_h w c (by omega) (by omega), rfl, rfl, rfl, trivial, ?_⟩
  ((repeat ((conv => whnf); first | refine brT ?_ | refine brF ?_)); conv => whnf)
  refine ⟨rfl, ?_⟩
  ((repeat ((conv => whnf); first | refine brT ?_ | refine brF ?_)); conv => whnf)
  refine ⟨rfl, ?_⟩
  ((repeat ((conv => whnf); first | refine brT ?_ | refine brF ?_)); conv => whnf)
  refine ⟨_, isClasses_impl w c (by omega) (by omega), ?_⟩
  ((repeat ((conv => whnf); first | refine brT ?_ | refine brF ?_)); conv => whnf)
  rw [show notB (eqB (clsB w c) (clsB w c)) = false by simp [notB, eqB_refl]]
  ((repeat ((conv => whnf); first | refine brT ?_ | refine brF ?_)); conv => whnf)
  refine ⟨true, by kernel_rfl, ?_⟩
  ((repeat ((conv => whnf); first | refine brT ?_ | refine brF ?_)); conv => whnf)
  refine ⟨_, toClasses_f w c (by omega) (by omega), ?_⟩
  ((repeat ((conv => whnf); first | refine brT ?_ | refine brF ?_)); conv => whnf)
  refine ⟨rfl, ?_⟩
  ((repeat ((conv => whnf); first | refine brT ?_ | refine brF ?_)); conv => whnf)
  refine ⟨rfl, ?_⟩
  ((repeat ((conv => whnf); first | refine brT ?_ | refine brF ?_)); conv => whnf)
  refine ⟨_, eqClasses_spec w c w c, ?_⟩
  rw [eqCls_refl]
  ((repeat ((conv => whnf); first | refine brT ?_ | refine brF ?_)); conv => whnf)
  rw [show notB true = false by simp [notB]]
  ((repeat ((conv => whnf); first | refine brT ?_ | refine brF ?_)); conv => whnf)
  exact fin rfl
theorem law_forbidsSiblings (w c : List Int) (hm : w.length ≤ Go.maxLen ∧ c.length ≤ Go.maxLen) : FSpec env.P 7 [clsLV w c] (.bool true) := by
  refine FSpec_of_code (E := env.x [36] 0) env_ok.x (fn := Try.f7) Try.func7 rfl Try.call7 _ _ ?_
  ((repeat ((conv => whnf); first | refine brT ?_ | refine brF ?_)); conv => whnf)
  refine ⟨_, szClasses_spec w c _, ?_⟩
  ((repeat ((conv => whnf); first | refine brT ?_ | refine brF ?_)); conv => whnf)
  (refine ⟨fun h => ?_, fun h => ?_⟩ <;> rw [h])
  · ((repeat ((conv => whnf); first | refine brT ?_ | refine brF ?_)); conv => whnf); exact fin rfl
  rw [ltI_f] at h
  obtain ⟨-, hs⟩ := szC_ok (by omega) (by omega) hm.1 hm.2 h
  ((repeat ((conv => whnf); first | refine brT ?_ | refine brF ?_)); conv => whnf)
  refine ⟨[], _, _, _, _, toClasses_h w c (by omega) (by omega), rfl, rfl, rfl, trivial, ?_⟩
  ((repeat ((conv => whnf); first | refine brT ?_ | refine brF ?_)); conv => whnf)
  refine ⟨rfl, ?_⟩
  ((repeat ((conv => whnf); first | refine brT ?_ | refine brF ?_)); conv => whnf)
  refine ⟨rfl, ?_⟩
  ((repeat ((conv => whnf); first | refine brT ?_ | refine brF ?_)); conv => whnf)
  refine ⟨_, forbids_spec w c (by omega) (by omega), ?_⟩
  ((repeat ((conv => whnf); first | refine brT ?_ | refine brF ?_)); conv => whnf)
  refine ⟨[], _, _, _, _, toClasses_h w c (by omega) (by omega), rfl, rfl, rfl, trivial, ?_⟩
  ((repeat ((conv => whnf); first | refine brT ?_ | refine brF ?_)); conv => whnf)
  refine ⟨rfl, ?_⟩
  ((repeat ((conv => whnf); first | refine brT ?_ | refine brF ?_)); conv => whnf)
  refine ⟨rfl, ?_⟩
  ((repeat ((conv => whnf); first | refine brT ?_ | refine brF ?_)); conv => whnf)
  refine ⟨_, forbids_impl w c (by omega) (by omega), ?_⟩
  ((repeat ((conv => whnf); first | refine brT ?_ | refine brF ?_)); conv => whnf)
  rw [show notB (eqB (fbB w c) (fbB w c)) = false by simp [notB, eqB_refl]]
  ((repeat ((conv => whnf); first | refine brT ?_ | refine brF ?_)); conv => whnf)
  refine ⟨true, by kernel_rfl, ?_⟩
  ((repeat ((conv => whnf); first | refine brT ?_ | refine brF ?_)); conv => whnf)
  refine ⟨_, toClasses_f w c (by omega) (by omega), ?_⟩
  ((repeat ((conv => whnf); first | refine brT ?_ | refine brF ?_)); conv => whnf)
  refine ⟨rfl, ?_⟩
  ((repeat ((conv => whnf); first | refine brT ?_ | refine brF ?_)); conv => whnf)
  refine ⟨rfl, ?_⟩
  ((repeat ((conv => whnf); first | refine brT ?_ | refine brF ?_)); conv => whnf)
  refine ⟨_, eqClasses_spec w c w c, ?_⟩
  rw [eqCls_refl]
  ((repeat ((conv => whnf); first | refine brT ?_ | refine brF ?_)); conv => whnf)
  rw [show notB true = false by simp [notB]]
  ((repeat ((conv => whnf); first | refine brT ?_ | refine brF ?_)); conv => whnf)
  exact fin rfl
theorem law_sampleClasses (s : ByteArray) (hm : s.size ≤ Go.maxLen) : FSpec env.P 10 [.str s] (.bool true) := by
  refine FSpec_of_code (E := env.x [48, 43] 0) env_ok.x (fn := Try.f10) Try.func10 rfl Try.call10 _ _ ?_
  have hI := sample_impl s hm
  have hS := cls_f (sample_spec s hm)
  obtain ⟨l1, l2⟩ := smp_len s
  generalize smpW s = w at hI hS l1
  generalize smpC s = c at hI hS l2
  ((repeat ((conv => whnf); first | refine brT ?_ | refine brF ?_)); conv => whnf)
  intro _
  ((repeat ((conv => whnf); first | refine brT ?_ | refine brF ?_)); conv => whnf)
  (refine ⟨fun h => ?_, fun h => ?_⟩ <;> rw [h])
  · ((repeat ((conv => whnf); first | refine brT ?_ | refine brF ?_)); conv => whnf); exact fin rfl
  ((repeat ((conv => whnf); first | refine brT ?_ | refine brF ?_)); conv => whnf)
  refine ⟨_, hS, ?_⟩
  rw [flat_cls]
  ((repeat ((conv => whnf); first | refine brT ?_ | refine brF ?_)); conv => whnf)
  refine ⟨[], _, _, _, _, hI, rfl, rfl, rfl, trivial, ?_⟩
  ((repeat ((conv => whnf); first | refine brT ?_ | refine brF ?_)); conv => whnf)
  refine ⟨rfl, ?_⟩
  ((repeat ((conv => whnf); first | refine brT ?_ | refine brF ?_)); conv => whnf)
  refine ⟨rfl, ?_⟩
  ((repeat ((conv => whnf); first | refine brT ?_ | refine brF ?_)); conv => whnf)
  refine ⟨_, eqClasses_spec w c w c, ?_⟩
  rw [eqCls_refl]
  ((repeat ((conv => whnf); first | refine brT ?_ | refine brF ?_)); conv => whnf)
  rw [show notB true = false by simp [notB]]
  ((repeat ((conv => whnf); first | refine brT ?_ | refine brF ?_)); conv => whnf)
  refine ⟨[1, 2], _, _, _, _, markClasses_spec w c _ _ rfl rfl 1 (by omega) (by omega), rfl, rfl, rfl, trivial, ?_⟩
  ((repeat ((conv => whnf); first | refine brT ?_ | refine brF ?_)); conv => whnf)
  refine ⟨by simp [marks_len], ?_⟩
  ((repeat ((conv => whnf); first | refine brT ?_ | refine brF ?_)); conv => whnf)
  refine ⟨by simp [marks_len], ?_⟩
  ((repeat ((conv => whnf); first | refine brT ?_ | refine brF ?_)); conv => whnf)
  refine ⟨_, heldClasses_spec 1 w.length c.length (by omega) (by omega), ?_⟩
  ((repeat ((conv => whnf); first | refine brT ?_ | refine brF ?_)); conv => whnf)
  rw [show ltI (1 + (w.length : Int) + (c.length : Int)) 0 = false by rw [ltI_f]; omega]
  ((repeat ((conv => whnf); first | refine brT ?_ | refine brF ?_)); conv => whnf)
  rw [show notB (eqI (1 + (w.length : Int) + (c.length : Int)) (1 + (w.length : Int) + (c.length : Int))) = false by simp [notB, eqI_refl]]
  ((repeat ((conv => whnf); first | refine brT ?_ | refine brF ?_)); conv => whnf)
  refine ⟨[], _, _, _, _, hI, rfl, rfl, rfl, trivial, ?_⟩
  ((repeat ((conv => whnf); first | refine brT ?_ | refine brF ?_)); conv => whnf)
  refine ⟨rfl, ?_⟩
  ((repeat ((conv => whnf); first | refine brT ?_ | refine brF ?_)); conv => whnf)
  refine ⟨rfl, ?_⟩
  ((repeat ((conv => whnf); first | refine brT ?_ | refine brF ?_)); conv => whnf)
  refine ⟨_, eqClasses_spec w c w c, ?_⟩
  rw [eqCls_refl]
  ((repeat ((conv => whnf); first | refine brT ?_ | refine brF ?_)); conv => whnf)
  rw [show notB true = false by simp [notB]]
  ((repeat ((conv => whnf); first | refine brT ?_ | refine brF ?_)); conv => whnf)
  refine ⟨by simp [marks_len], ?_⟩
  ((repeat ((conv => whnf); first | refine brT ?_ | refine brF ?_)); conv => whnf)
  refine ⟨by simp [marks_len], ?_⟩
  ((repeat ((conv => whnf); first | refine brT ?_ | refine brF ?_)); conv => whnf)
  refine ⟨_, heldClasses_spec 1 w.length c.length (by omega) (by omega), ?_⟩
  ((repeat ((conv => whnf); first | refine brT ?_ | refine brF ?_)); conv => whnf)
  rw [show ltI (1 + (w.length : Int) + (c.length : Int)) 0 = false by rw [ltI_f]; omega]
  ((repeat ((conv => whnf); first | refine brT ?_ | refine brF ?_)); conv => whnf)
  rw [show notB (eqI (1 + (w.length : Int) + (c.length : Int)) (1 + (w.length : Int) + (c.length : Int))) = false by simp [notB, eqI_refl]]
  ((repeat ((conv => whnf); first | refine brT ?_ | refine brF ?_)); conv => whnf)
  exact fin rfl
def shCls : Sh := .st [shInts, shInts]
theorem cls_of_sh {x : LV} (h : hasSh shCls x) : ∃ w c : List Int, x = clsLV w c ∧ w.length ≤ Go.maxLen ∧ c.length ≤ Go.maxLen := by
  unfold hasSh at h
  obtain ⟨xs, rfl, h⟩ := h
  match xs, h with
  | [a, b], h =>
    simp only [hasShs] at h
    obtain ⟨r1, rfl, h1⟩ := row_of_sh h.1
    obtain ⟨r2, rfl, h2⟩ := row_of_sh h.2.1
    exact ⟨r1, r2, rfl, h1, h2⟩
  | [], h => simp [hasShs] at h
  | [_], h => simp [hasShs] at h
  | _ :: _ :: _ :: _, h => simp [hasShs] at h
end Go.Proofs.Ytpfipmjmblgjfaa

namespace Go.Proofs.Ytpfipmjmblgjfaa
open Go.Lg
set_option maxHeartbeats 1600000
set_option maxRecDepth 10000
set_option linter.unusedVariables false
set_option linter.unusedSimpArgs false

theorem finI {p : Prop} (h : p) : IntKind.i64 = IntKind.i64 ∧ p ∧ (fun ids : List Nat => ids.Nodup) [] := ⟨rfl, h, List.nodup_nil⟩

/-! A rule: its name, its sex and place, the steps that it replaces and by which. -/
structure Rul where
  name : ByteArray
  sex : Int
  place : Int
  fr : List Pr
  to : List Pr
def Rul.lv (r : Rul) : LV := .st [.str r.name, .int .i64 r.sex, .int .i64 r.place, .sl (r.fr.map Pr.lv), .sl (r.to.map Pr.lv)]
def Rul.own (r : Rul) (e : Nat) : LV := .st [.str r.name, .int .i64 r.sex, .int .i64 r.place, .own e 2 (r.fr.map Pr.lv), .own e 2 (r.to.map Pr.lv)]
/-- Its parts are of a length that memory allows. -/
def Rul.OK (r : Rul) : Prop := r.name.size ≤ Go.maxLen ∧ r.fr.length ≤ Go.maxLen ∧ r.to.length ≤ Go.maxLen
def szR (l : Int) (r : Rul) : Int := match ltI (IntKind.i64.wrap (l - (r.name.size : Int))) 0 with
  | true => -1
  | false => match ltI (szN (IntKind.i64.wrap (l - (r.name.size : Int))) r.fr.length) 0 with
    | true => -1
    | false => szT (szN (IntKind.i64.wrap (l - (r.name.size : Int))) r.fr.length) r.to.length
theorem szRule_spec (r : Rul) (l : Int) : FSpec env.P 77 [r.lv, .int .i64 l] (.int .i64 (szR l r)) := by
  refine FSpec_of_code env_ok (fn := Try.f77) Try.func77 rfl Try.call77 _ _ ?_
  ((repeat ((conv => whnf); first | refine brT ?_ | refine brF ?_)); conv => whnf)
  intro hm
  ((repeat ((conv => whnf); first | refine brT ?_ | refine brF ?_)); conv => whnf)
  (refine ⟨fun h => ?_, fun h => ?_⟩ <;> rw [h])
  · ((repeat ((conv => whnf); first | refine brT ?_ | refine brF ?_)); conv => whnf); exact finI (by unfold szR; rw [h])
  ((repeat ((conv => whnf); first | refine brT ?_ | refine brF ?_)); conv => whnf)
  refine ⟨_, szStepS_spec r.fr _, ?_⟩
  ((repeat ((conv => whnf); first | refine brT ?_ | refine brF ?_)); conv => whnf)
  (refine ⟨fun h1 => ?_, fun h1 => ?_⟩ <;> rw [h1])
  · ((repeat ((conv => whnf); first | refine brT ?_ | refine brF ?_)); conv => whnf); exact finI (by unfold szR; simp only [h, h1])
  ((repeat ((conv => whnf); first | refine brT ?_ | refine brF ?_)); conv => whnf)
  refine ⟨_, szStepS_spec r.to _, ?_⟩
  ((repeat ((conv => whnf); first | refine brT ?_ | refine brF ?_)); conv => whnf)
  (refine ⟨fun h2 => ?_, fun h2 => ?_⟩ <;> rw [h2])
  · ((repeat ((conv => whnf); first | refine brT ?_ | refine brF ?_)); conv => whnf); exact finI (by unfold szR szT; simp only [h, h1, h2])
  · ((repeat ((conv => whnf); first | refine brT ?_ | refine brF ?_)); conv => whnf); exact finI (by unfold szR szT; simp only [h, h1, h2])
theorem szR_ok {l : Int} {r : Rul} (hr : r.OK) (h0 : 0 ≤ l) (h1 : l ≤ 1048576) (h : 0 ≤ szR l r) :
    szR l r = l - r.name.size - r.fr.length - r.to.length ∧ ltI (szR l r) 0 = false ∧ 16 * r.fr.length ≤ 281474976710656 ∧ 16 * r.to.length ≤ 281474976710656 ∧ r.fr.length ≤ 1048576 ∧ r.to.length ≤ 1048576 ∧ (r.name.size : Int) ≤ l := by
  obtain ⟨hn, hf, ht⟩ := hr
  unfold Go.maxLen at hn hf ht
  have hw : IntKind.i64.wrap (l - (r.name.size : Int)) = l - r.name.size := wrap64 (by omega) (by omega)
  unfold szR at h ⊢
  rw [hw] at h ⊢
  split at h
  · omega
  rename_i e1
  rw [ltI_f] at e1
  split at h
  · omega
  rename_i e2
  rw [ltI_f] at e2
  have hw2 : szN (l - r.name.size) r.fr.length = l - r.name.size - r.fr.length := by
    unfold szN at e2 ⊢
    have hw3 : IntKind.i64.wrap (l - (r.name.size : Int) - (r.fr.length : Int)) = l - r.name.size - r.fr.length := wrap64 (by omega) (by omega)
    rw [hw3] at e2 ⊢
    cases hh : ltI (l - (r.name.size : Int) - (r.fr.length : Int)) 0 <;> rw [hh] at e2
    simp only at e2
    omega
  try simp only [show ltI (l - (r.name.size : Int)) 0 = false by rw [ltI_f]; omega]
  rw [hw2] at h e2 ⊢
  try simp only [show ltI (l - (r.name.size : Int) - (r.fr.length : Int)) 0 = false by rw [ltI_f]; omega]
  obtain ⟨k1, k2, k3, k4, -⟩ := szT_ok (l := l - r.name.size - r.fr.length) (n := r.to.length) (by omega) (by omega) (by unfold Go.maxLen; omega) h
  exact ⟨by omega, k3, by omega, k4, by omega, by omega, by omega⟩

theorem toRule_f (r : Rul) (h1 : 16 * r.fr.length ≤ 281474976710656) (h2 : 16 * r.to.length ≤ 281474976710656) : FSpec env.P 79 [r.lv] r.lv := by
  refine FSpec_of_code env_ok (fn := Try.f79) Try.func79 rfl Try.call79 _ _ ?_
  ((repeat ((conv => whnf); first | refine brT ?_ | refine brF ?_)); conv => whnf)
  refine ⟨_, toStepS_f r.fr h1, ?_⟩
  ((repeat ((conv => whnf); first | refine brT ?_ | refine brF ?_)); conv => whnf)
  refine ⟨_, toStepS_f r.to h2, ?_⟩
  ((repeat ((conv => whnf); first | refine brT ?_ | refine brF ?_)); conv => whnf)
  exact ⟨_, rfl, rfl, rfl, rfl, rfl, rfl, rfl, rfl, by simp [exsW, exW]⟩

def Rul.eq (r s : Rul) : Bool := eqS r.name s.name && (eqI r.sex s.sex && (eqI r.place s.place && (eqList Pr.eq r.fr s.fr && eqList Pr.eq r.to s.to)))
theorem eqRule_spec (r s : Rul) : FSpec env.P 81 [r.lv, s.lv] (.bool (r.eq s)) := by
  refine FSpec_of_code env_ok (fn := Try.f81) Try.func81 rfl Try.call81 _ _ ?_
  ((repeat' (((repeat ((conv => whnf); first | refine brT ?_ | refine brF ?_)); conv => whnf); first | (refine And.intro ?_ ?_ <;> (intro h; rw [h]; revert h; intro _)) | (refine Exists.intro true (And.intro (a := drawB _ _ = true) (by kernel_rfl) ?_)) | (refine Exists.intro _ (And.intro (eqStepS_spec r.fr s.fr) ?_)) | (refine Exists.intro _ (And.intro (eqStepS_spec r.to s.to) ?_)))); all_goals ((repeat ((conv => whnf); first | refine brT ?_ | refine brF ?_)); conv => whnf))
  all_goals (refine fin ?_; simp_all [Rul.eq, notB])
theorem Rul.eq_refl (r : Rul) : r.eq r = true := by simp [Rul.eq, eqS_refl, eqI_refl, eqPairS_refl]

/-! Comparisons of steps. -/
def cmpI (a b : Int) : Int := match ltI a b with | true => -1 | false => match ltI b a with | true => 1 | false => 0
theorem isNaN_spec (a : Int) : FSpec env.P 226 [.int .i64 a] (.bool false) := by
  refine FSpec_of_code env_ok (fn := Try.f226) Try.func226 rfl Try.call226 _ _ ?_
  ((repeat ((conv => whnf); first | refine brT ?_ | refine brF ?_)); conv => whnf)
  exact fin (by rw [eqI_refl]; simp [notB])
theorem compare_spec (a b : Int) : FSpec env.P 204 [.int .i64 a, .int .i64 b] (.int .i64 (cmpI a b)) := by
  refine FSpec_of_code env_ok (fn := Try.f204) Try.func204 rfl Try.call204 _ _ ?_
  ((repeat' (((repeat ((conv => whnf); first | refine brT ?_ | refine brF ?_)); conv => whnf); first | (refine And.intro ?_ ?_ <;> (intro h; rw [h]; revert h; intro _)) | (refine Exists.intro true (And.intro (a := drawB _ _ = true) (by kernel_rfl) ?_)) | (refine Exists.intro _ (And.intro (isNaN_spec a) ?_)) | (refine Exists.intro _ (And.intro (isNaN_spec b) ?_)))); all_goals ((repeat ((conv => whnf); first | refine brT ?_ | refine brF ?_)); conv => whnf))
  all_goals (refine finI ?_; simp_all [cmpI])
def orL : List Int → Int
  | [] => 0
  | x :: xs => match eqI x 0 with | true => orL xs | false => x
theorem orL_drop {xs : List Int} : ∀ {k : Nat}, (∀ j x, j < k → xs[j]? = some x → eqI x 0 = true) → orL (xs.drop k) = orL xs := by
  induction xs with
  | nil => intro k _; simp
  | cons x xs ih =>
    intro k h
    cases k with
    | zero => rfl
    | succ k =>
      have h0 := h 0 x (by omega) rfl
      simp only [List.drop_succ_cons, orL, h0]
      exact ih fun j y hj hy => h (j + 1) y (by omega) (by simpa using hy)
theorem cmpOr_spec (xs : List Int) : FSpec env.P 172 [.sl (xs.map fun x => .int .i64 x)] (.int .i64 (orL xs)) := by
  refine FSpec_of_code env_ok (fn := Try.f172) Try.func172 rfl Try.call172 _ _ ?_
  ((repeat ((conv => whnf); first | refine brT ?_ | refine brF ?_)); conv => whnf)
  intro hm
  rw [List.length_map] at hm ⊢
  ((repeat ((conv => whnf); first | refine brT ?_ | refine brF ?_)); conv => whnf)
  refine loop_rule (α := Nat) (fun k => [(8, .int .i64 (k : Int))]) (fun _ => []) (fun k => xs.length - k) (fun k => k ≤ xs.length ∧ ∀ j x, j < k → xs[j]? = some x → eqI x 0 = true) 0 ⟨Nat.zero_le _, fun _ _ h => absurd h (Nat.not_lt_zero _)⟩ ?_ ?_
  · refine ⟨?_, trivial, rfl, rfl⟩
    ((repeat ((conv => whnf); refine ⟨rfl, ?_⟩)); trivial)
  rintro k ⟨hk, hz⟩
  ((repeat ((conv => whnf); first | refine brT ?_ | refine brF ?_)); conv => whnf)
  (refine ⟨fun h1 => ?_, fun h1 => ?_⟩ <;> rw [h1])
  · have hlt : k < xs.length := by rw [ltI_t] at h1; omega
    ((repeat ((conv => whnf); first | refine brT ?_ | refine brF ?_)); conv => whnf)
    refine ⟨k, .int .i64 xs[k], rfl, by simp [hlt], rfl, ?_⟩
    ((repeat ((conv => whnf); first | refine brT ?_ | refine brF ?_)); conv => whnf)
    (refine ⟨fun h2 => ?_, fun h2 => ?_⟩ <;> rw [h2])
    · ((repeat ((conv => whnf); first | refine brT ?_ | refine brF ?_)); conv => whnf)
      refine finI ?_
      rw [notB_t] at h2
      rw [← orL_drop (k := k) hz, List.drop_eq_getElem_cons hlt]
      simp only [orL, h2]
    · rw [notB_f] at h2
      ((repeat ((conv => whnf); first | refine brT ?_ | refine brF ?_)); conv => whnf)
      refine round_end (k + 1) ⟨hlt, fun j x hj hx => ?_⟩ (by omega) ⟨?_, trivial, rfl, rfl⟩
      · by_cases e : j = k
        · subst e; rw [List.getElem?_eq_getElem hlt] at hx; cases hx; exact h2
        · exact hz j x (by omega) hx
      have e := step_i hlt hm
      ((repeat ((conv => whnf); first | refine ⟨e, ?_⟩ | refine ⟨rfl, ?_⟩)); trivial)
  · have h4 : k = xs.length := by rw [ltI_f] at h1; omega
    subst h4
    ((repeat ((conv => whnf); first | refine brT ?_ | refine brF ?_)); conv => whnf)
    refine finI ?_
    rw [← orL_drop (k := xs.length) hz]
    simp [orL]
def cmpS (p q : Pr) : Int := orL [cmpI p.a q.a, cmpI p.b q.b]
theorem compareSteps_spec (p q : Pr) : FSpec env.P 220 [p.lv, q.lv] (.int .i64 (cmpS p q)) := by
  refine FSpec_of_code env_ok (fn := Try.f220) Try.func220 rfl Try.call220 _ _ ?_
  ((repeat ((conv => whnf); first | refine brT ?_ | refine brF ?_)); conv => whnf)
  refine ⟨true, by kernel_rfl, ?_⟩
  ((repeat ((conv => whnf); first | refine brT ?_ | refine brF ?_)); conv => whnf)
  refine ⟨_, compare_spec p.a q.a, ?_⟩
  ((repeat ((conv => whnf); first | refine brT ?_ | refine brF ?_)); conv => whnf)
  refine ⟨_, compare_spec p.b q.b, ?_⟩
  ((repeat ((conv => whnf); first | refine brT ?_ | refine brF ?_)); conv => whnf)
  refine ⟨rfl, _, cmpOr_spec [cmpI p.a q.a, cmpI p.b q.b], ?_⟩
  ((repeat ((conv => whnf); first | refine brT ?_ | refine brF ?_)); conv => whnf)
  exact finI rfl
def cmpFL : List Pr → List Pr → Int
  | [], [] => 0
  | [], _ :: _ => -1
  | _ :: _, [] => 1
  | p :: ps, q :: qs => match eqI (cmpS p q) 0 with | true => cmpFL ps qs | false => cmpS p q
def befL : List Pr → List Pr → Bool
  | p :: ps, q :: qs => match eqI p.a q.a with
    | true => (match eqI p.b q.b with | true => befL ps qs | false => ltI p.b q.b)
    | false => ltI p.a q.a
  | _, _ => false
theorem cmpFL_drop {ps qs : List Pr} : ∀ {k : Nat}, (∀ j p q, j < k → ps[j]? = some p → qs[j]? = some q → eqI (cmpS p q) 0 = true) → k ≤ ps.length → k ≤ qs.length → cmpFL (ps.drop k) (qs.drop k) = cmpFL ps qs := by
  induction ps generalizing qs with
  | nil => intro k _ h1 h2; have : k = 0 := by simpa using h1
           subst this; rfl
  | cons p ps ih =>
    intro k h h1 h2
    cases k with
    | zero => rfl
    | succ k =>
      cases qs with
      | nil => simp at h2
      | cons q qs =>
        have h0 := h 0 p q (by omega) rfl rfl
        simp only [List.drop_succ_cons, cmpFL, h0]
        exact ih (fun j x y hj hx hy => h (j + 1) x y (by omega) (by simpa using hx) (by simpa using hy)) (by simpa using h1) (by simpa using h2)
theorem compareFunc_spec (ps qs : List Pr) : FSpec env.P 219 [.sl (ps.map Pr.lv), .sl (qs.map Pr.lv), .clos 220 []] (.int .i64 (cmpFL ps qs)) := by
  refine FSpec_of_code env_ok (fn := Try.f219) Try.func219 rfl Try.call219 _ _ ?_
  ((repeat ((conv => whnf); first | refine brT ?_ | refine brF ?_)); conv => whnf)
  intro hm
  rw [List.length_map] at hm ⊢
  ((repeat ((conv => whnf); first | refine brT ?_ | refine brF ?_)); conv => whnf)
  refine loop_rule (α := Nat) (fun k => [(13, .int .i64 (k : Int))]) (fun _ => []) (fun k => ps.length - k) (fun k => k ≤ ps.length ∧ k ≤ qs.length ∧ ∀ j p q, j < k → ps[j]? = some p → qs[j]? = some q → eqI (cmpS p q) 0 = true) 0 ⟨Nat.zero_le _, Nat.zero_le _, fun _ _ _ h => absurd h (Nat.not_lt_zero _)⟩ ?_ ?_
  · refine ⟨?_, trivial, rfl, rfl⟩
    ((repeat ((conv => whnf); refine ⟨rfl, ?_⟩)); trivial)
  rintro k ⟨hk, hk2, hz⟩
  ((repeat ((conv => whnf); first | refine brT ?_ | refine brF ?_)); conv => whnf)
  (refine ⟨fun h1 => ?_, fun h1 => ?_⟩ <;> rw [h1])
  · have hlt : k < ps.length := by rw [ltI_t] at h1; omega
    ((repeat ((conv => whnf); first | refine brT ?_ | refine brF ?_)); conv => whnf)
    refine ⟨k, ps[k].lv, rfl, by simp [hlt], rfl, ?_⟩
    ((repeat ((conv => whnf); first | refine brT ?_ | refine brF ?_)); conv => whnf)
    intro hm2
    rw [List.length_map] at hm2 ⊢
    ((repeat ((conv => whnf); first | refine brT ?_ | refine brF ?_)); conv => whnf)
    (refine ⟨fun h2 => ?_, fun h2 => ?_⟩ <;> rw [h2])
    · rw [leI_t] at h2
      ((repeat ((conv => whnf); first | refine brT ?_ | refine brF ?_)); conv => whnf)
      refine finI ?_
      rw [← cmpFL_drop hz hk hk2, List.drop_eq_getElem_cons hlt, show qs.drop k = [] from List.drop_eq_nil_of_le (by omega)]
      simp only [cmpFL]
    · rw [leI_f] at h2
      have hlt2 : k < qs.length := by omega
      ((repeat ((conv => whnf); first | refine brT ?_ | refine brF ?_)); conv => whnf)
      refine ⟨k, qs[k].lv, rfl, by simp [hlt2], rfl, ?_⟩
      ((repeat ((conv => whnf); first | refine brT ?_ | refine brF ?_)); conv => whnf)
      refine ⟨_, compareSteps_spec ps[k] qs[k], ?_⟩
      ((repeat ((conv => whnf); first | refine brT ?_ | refine brF ?_)); conv => whnf)
      (refine ⟨fun h3 => ?_, fun h3 => ?_⟩ <;> rw [h3])
      · rw [notB_t] at h3
        ((repeat ((conv => whnf); first | refine brT ?_ | refine brF ?_)); conv => whnf)
        refine finI ?_
        rw [← cmpFL_drop hz hk hk2, List.drop_eq_getElem_cons hlt, List.drop_eq_getElem_cons hlt2]
        simp only [cmpFL, h3]
      · rw [notB_f] at h3
        ((repeat ((conv => whnf); first | refine brT ?_ | refine brF ?_)); conv => whnf)
        refine round_end (k + 1) ⟨hlt, hlt2, fun j x y hj hx hy => ?_⟩ (by omega) ⟨?_, trivial, rfl, rfl⟩
        · by_cases e : j = k
          · subst e; rw [List.getElem?_eq_getElem hlt] at hx; rw [List.getElem?_eq_getElem hlt2] at hy; cases hx; cases hy; exact h3
          · exact hz j x y (by omega) hx hy
        have e := step_i hlt hm
        ((repeat ((conv => whnf); first | refine ⟨e, ?_⟩ | refine ⟨rfl, ?_⟩)); trivial)
  · have h4 : k = ps.length := by rw [ltI_f] at h1; omega
    subst h4
    ((repeat ((conv => whnf); first | refine brT ?_ | refine brF ?_)); conv => whnf)
    intro _
    rw [List.length_map]
    ((repeat ((conv => whnf); first | refine brT ?_ | refine brF ?_)); conv => whnf)
    intro _
    rw [List.length_map]
    ((repeat ((conv => whnf); first | refine brT ?_ | refine brF ?_)); conv => whnf)
    (refine ⟨fun h5 => ?_, fun h5 => ?_⟩ <;> rw [h5])
    · rw [ltI_t] at h5
      ((repeat ((conv => whnf); first | refine brT ?_ | refine brF ?_)); conv => whnf)
      refine finI ?_
      rw [← cmpFL_drop hz hk hk2, List.drop_eq_nil_of_le (Nat.le_refl _), List.drop_eq_getElem_cons (l := qs) (i := ps.length) (by omega)]
      simp only [cmpFL]
    · rw [ltI_f] at h5
      ((repeat ((conv => whnf); first | refine brT ?_ | refine brF ?_)); conv => whnf)
      refine finI ?_
      rw [← cmpFL_drop hz hk hk2, List.drop_eq_nil_of_le (Nat.le_refl _), List.drop_eq_nil_of_le (by omega)]
      simp only [cmpFL]
def cmpPt (a b : List Pr) : Int := orL [cmpI a.length b.length, cmpFL a b]
theorem compareParts_spec (a b : List Pr) : FSpec env.P 195 [.sl (a.map Pr.lv), .sl (b.map Pr.lv)] (.int .i64 (cmpPt a b)) := by
  refine FSpec_of_code env_ok (fn := Try.f195) Try.func195 rfl Try.call195 _ _ ?_
  ((repeat ((conv => whnf); first | refine brT ?_ | refine brF ?_)); conv => whnf)
  intro _
  rw [List.length_map]
  ((repeat ((conv => whnf); first | refine brT ?_ | refine brF ?_)); conv => whnf)
  intro _
  rw [List.length_map]
  ((repeat ((conv => whnf); first | refine brT ?_ | refine brF ?_)); conv => whnf)
  refine ⟨_, compare_spec a.length b.length, ?_⟩
  ((repeat ((conv => whnf); first | refine brT ?_ | refine brF ?_)); conv => whnf)
  refine ⟨_, compareFunc_spec a b, ?_⟩
  ((repeat ((conv => whnf); first | refine brT ?_ | refine brF ?_)); conv => whnf)
  refine ⟨rfl, _, cmpOr_spec [cmpI a.length b.length, cmpFL a b], ?_⟩
  ((repeat ((conv => whnf); first | refine brT ?_ | refine brF ?_)); conv => whnf)
  exact finI rfl
theorem befL_drop {ps qs : List Pr} : ∀ {k : Nat}, (∀ j p q, j < k → ps[j]? = some p → qs[j]? = some q → eqI p.a q.a = true ∧ eqI p.b q.b = true) → k ≤ ps.length → k ≤ qs.length → befL (ps.drop k) (qs.drop k) = befL ps qs := by
  induction ps generalizing qs with
  | nil => intro k _ h1 h2; have : k = 0 := by simpa using h1
           subst this; rfl
  | cons p ps ih =>
    intro k h h1 h2
    cases k with
    | zero => rfl
    | succ k =>
      cases qs with
      | nil => simp at h2
      | cons q qs =>
        obtain ⟨h0, h0'⟩ := h 0 p q (by omega) rfl rfl
        simp only [List.drop_succ_cons, befL, h0, h0']
        exact ih (fun j x y hj hx hy => h (j + 1) x y (by omega) (by simpa using hx) (by simpa using hy)) (by simpa using h1) (by simpa using h2)
def befP (a b : List Pr) : Bool := match eqI (a.length : Int) b.length with | true => befL a b | false => ltI (a.length : Int) b.length
theorem l4Before_spec (ps qs : List Pr) : FSpec env.P 192 [.sl (ps.map Pr.lv), .sl (qs.map Pr.lv)] (.bool (befP ps qs)) := by
  refine FSpec_of_code env_ok (fn := Try.f192) Try.func192 rfl Try.call192 _ _ ?_
  ((repeat ((conv => whnf); first | refine brT ?_ | refine brF ?_)); conv => whnf)
  intro hm
  rw [List.length_map] at hm ⊢
  ((repeat ((conv => whnf); first | refine brT ?_ | refine brF ?_)); conv => whnf)
  intro hm2
  rw [List.length_map] at hm2 ⊢
  ((repeat ((conv => whnf); first | refine brT ?_ | refine brF ?_)); conv => whnf)
  (refine ⟨fun h => ?_, fun h => ?_⟩ <;> rw [h])
  · rw [notB_t] at h
    ((repeat ((conv => whnf); first | refine brT ?_ | refine brF ?_)); conv => whnf)
    intro _
    rw [List.length_map]
    ((repeat ((conv => whnf); first | refine brT ?_ | refine brF ?_)); conv => whnf)
    intro _
    rw [List.length_map]
    ((repeat ((conv => whnf); first | refine brT ?_ | refine brF ?_)); conv => whnf)
    exact fin (by unfold befP; rw [h])
  rw [notB_f] at h
  have hl : ps.length = qs.length := by rw [eqI_t] at h; omega
  ((repeat ((conv => whnf); first | refine brT ?_ | refine brF ?_)); conv => whnf)
  intro _
  rw [List.length_map]
  ((repeat ((conv => whnf); first | refine brT ?_ | refine brF ?_)); conv => whnf)
  refine loop_rule (α := Nat) (fun k => [(18, .int .i64 (k : Int))]) (fun _ => []) (fun k => ps.length - k) (fun k => k ≤ ps.length ∧ ∀ j p q, j < k → ps[j]? = some p → qs[j]? = some q → eqI p.a q.a = true ∧ eqI p.b q.b = true) 0 ⟨Nat.zero_le _, fun _ _ _ h => absurd h (Nat.not_lt_zero _)⟩ ?_ ?_
  · refine ⟨?_, trivial, rfl, rfl⟩
    ((repeat ((conv => whnf); refine ⟨rfl, ?_⟩)); trivial)
  rintro k ⟨hk, hz⟩
  have hk2 : k ≤ qs.length := by omega
  ((repeat ((conv => whnf); first | refine brT ?_ | refine brF ?_)); conv => whnf)
  (refine ⟨fun h1 => ?_, fun h1 => ?_⟩ <;> rw [h1])
  · have hlt : k < ps.length := by rw [ltI_t] at h1; omega
    have hlt2 : k < qs.length := by omega
    have e1 : befP ps qs = befL (ps[k] :: ps.drop (k + 1)) (qs[k] :: qs.drop (k + 1)) := by
      unfold befP; rw [h]; simp only
      rw [← befL_drop hz hk hk2, List.drop_eq_getElem_cons hlt, List.drop_eq_getElem_cons hlt2]
    ((repeat ((conv => whnf); first | refine brT ?_ | refine brF ?_)); conv => whnf)
    refine ⟨true, by kernel_rfl, ?_⟩
    ((repeat ((conv => whnf); first | refine brT ?_ | refine brF ?_)); conv => whnf)
    refine ⟨k, ps[k].lv, rfl, by simp [hlt], rfl, ?_⟩
    ((repeat ((conv => whnf); first | refine brT ?_ | refine brF ?_)); conv => whnf)
    refine ⟨k, qs[k].lv, rfl, by simp [hlt2], rfl, ?_⟩
    ((repeat ((conv => whnf); first | refine brT ?_ | refine brF ?_)); conv => whnf)
    (refine ⟨fun h2 => ?_, fun h2 => ?_⟩ <;> rw [h2])
    · rw [notB_t] at h2
      ((repeat ((conv => whnf); first | refine brT ?_ | refine brF ?_)); conv => whnf)
      refine ⟨true, by kernel_rfl, ?_⟩
      ((repeat ((conv => whnf); first | refine brT ?_ | refine brF ?_)); conv => whnf)
      refine ⟨k, ps[k].lv, rfl, by simp [hlt], rfl, ?_⟩
      ((repeat ((conv => whnf); first | refine brT ?_ | refine brF ?_)); conv => whnf)
      refine ⟨k, qs[k].lv, rfl, by simp [hlt2], rfl, ?_⟩
      ((repeat ((conv => whnf); first | refine brT ?_ | refine brF ?_)); conv => whnf)
      exact fin (by rw [e1]; simp only [befL, h2])
    rw [notB_f] at h2
    ((repeat ((conv => whnf); first | refine brT ?_ | refine brF ?_)); conv => whnf)
    refine ⟨true, by kernel_rfl, ?_⟩
    ((repeat ((conv => whnf); first | refine brT ?_ | refine brF ?_)); conv => whnf)
    refine ⟨k, ps[k].lv, rfl, by simp [hlt], rfl, ?_⟩
    ((repeat ((conv => whnf); first | refine brT ?_ | refine brF ?_)); conv => whnf)
    refine ⟨k, qs[k].lv, rfl, by simp [hlt2], rfl, ?_⟩
    ((repeat ((conv => whnf); first | refine brT ?_ | refine brF ?_)); conv => whnf)
    (refine ⟨fun h3 => ?_, fun h3 => ?_⟩ <;> rw [h3])
    · rw [notB_t] at h3
      ((repeat ((conv => whnf); first | refine brT ?_ | refine brF ?_)); conv => whnf)
      refine ⟨true, by kernel_rfl, ?_⟩
      ((repeat ((conv => whnf); first | refine brT ?_ | refine brF ?_)); conv => whnf)
      refine ⟨k, ps[k].lv, rfl, by simp [hlt], rfl, ?_⟩
      ((repeat ((conv => whnf); first | refine brT ?_ | refine brF ?_)); conv => whnf)
      refine ⟨k, qs[k].lv, rfl, by simp [hlt2], rfl, ?_⟩
      ((repeat ((conv => whnf); first | refine brT ?_ | refine brF ?_)); conv => whnf)
      exact fin (by rw [e1]; simp only [befL, h2, h3])
    rw [notB_f] at h3
    ((repeat ((conv => whnf); first | refine brT ?_ | refine brF ?_)); conv => whnf)
    refine round_end (k + 1) ⟨hlt, fun j x y hj hx hy => ?_⟩ (by omega) ⟨?_, trivial, rfl, rfl⟩
    · by_cases e : j = k
      · subst e; rw [List.getElem?_eq_getElem hlt] at hx; rw [List.getElem?_eq_getElem hlt2] at hy; cases hx; cases hy; exact ⟨h2, h3⟩
      · exact hz j x y (by omega) hx hy
    have e := step_i hlt hm
    ((repeat ((conv => whnf); first | refine ⟨e, ?_⟩ | refine ⟨rfl, ?_⟩)); trivial)
  · have h4 : k = ps.length := by rw [ltI_f] at h1; omega
    subst h4
    ((repeat ((conv => whnf); first | refine brT ?_ | refine brF ?_)); conv => whnf)
    refine fin ?_
    unfold befP; rw [h]; simp only
    rw [← befL_drop hz hk hk2, List.drop_eq_nil_of_le (Nat.le_refl _)]
    simp only [befL]
theorem cmpI_neg (a b : Int) : ltI (cmpI a b) 0 = ltI a b := by
  unfold cmpI
  cases h : ltI a b <;> simp only
  · cases h2 : ltI b a <;> simp only <;> rw [ltI_f] <;> omega
  · rw [ltI_t]; omega
theorem cmpI_zero (a b : Int) : eqI (cmpI a b) 0 = eqI a b := by
  unfold cmpI
  cases h : ltI a b <;> simp only
  · rw [ltI_f] at h
    cases h2 : ltI b a <;> simp only
    · rw [ltI_f] at h2; rw [eqI_refl, eq_comm, eqI_t]; omega
    · rw [ltI_t] at h2
      rw [show eqI 1 0 = false by rw [eqI_f]; omega, eq_comm, eqI_f]; omega
  · rw [ltI_t] at h
    rw [show eqI (-1) 0 = false by rw [eqI_f]; omega, eq_comm, eqI_f]; omega
theorem cmpS_zero (p q : Pr) : eqI (cmpS p q) 0 = (eqI p.a q.a && eqI p.b q.b) := by
  unfold cmpS
  simp only [orL, cmpI_zero]
  cases h1 : eqI p.a q.a <;> simp only [Bool.false_and, Bool.true_and]
  · rw [cmpI_zero, h1]
  · cases h2 : eqI p.b q.b <;> simp only [eqI_refl]
    rw [cmpI_zero, h2]
theorem cmpS_neg (p q : Pr) : ltI (cmpS p q) 0 = (match eqI p.a q.a with | true => ltI p.b q.b | false => ltI p.a q.a) := by
  unfold cmpS
  simp only [orL, cmpI_zero]
  cases h1 : eqI p.a q.a <;> simp only
  · rw [cmpI_neg]
  · cases h2 : eqI p.b q.b <;> simp only
    · rw [cmpI_neg]
    · rw [eqI_t] at h2
      rw [show ltI 0 0 = false by rw [ltI_f]; omega, eq_comm, ltI_f]; omega
theorem cmpFL_neg : ∀ (a b : List Pr), a.length = b.length → ltI (cmpFL a b) 0 = befL a b
  | [], [], _ => by simp only [cmpFL, befL]; rw [ltI_f]; omega
  | [], _ :: _, h => by simp at h
  | _ :: _, [], h => by simp at h
  | p :: ps, q :: qs, h => by
    simp only [cmpFL, befL, cmpS_zero]
    have ih := cmpFL_neg ps qs (by simpa using h)
    cases h1 : eqI p.a q.a <;> simp only [Bool.false_and, Bool.true_and]
    · rw [cmpS_neg, h1]
    · cases h2 : eqI p.b q.b <;> simp only
      · rw [cmpS_neg, h1]
      · exact ih
theorem cmpPt_neg (a b : List Pr) : ltI (cmpPt a b) 0 = befP a b := by
  unfold cmpPt befP
  simp only [orL, cmpI_zero]
  cases h : eqI (a.length : Int) b.length <;> simp only
  · rw [cmpI_neg]
  · have hl : a.length = b.length := by rw [eqI_t] at h; omega
    rw [← cmpFL_neg a b hl]
    cases h2 : eqI (cmpFL a b) 0 <;> simp only
    rw [eqI_t] at h2
    rw [h2]
end Go.Proofs.Ytpfipmjmblgjfaa

namespace Go.Proofs.Ytpfipmjmblgjfaa
open Go.Lg
set_option maxHeartbeats 1600000
set_option maxRecDepth 10000
set_option linter.unusedVariables false
set_option linter.unusedSimpArgs false

theorem Weak.idn {n0 : Nat} {ts : List LV} {H : List Blk} (h1 : wk ts ts) (h2 : wkH n0 H H) (h3 : (scs (below H.length) ts && H.all (scB (below H.length))) = true) : Weak n0 ts H ts H := by
  simp only [Bool.and_eq_true] at h3
  exact .inl ⟨h1, h2, h3.1, h3.2⟩

theorem isPlace_spec (x : Int) : FSpec env.P 194 [.int .i64 x] (.bool (eqI x 0 || eqI x 1 || eqI x 2)) := by
  refine FSpec_of_code env_ok (fn := Try.f194) Try.func194 rfl Try.call194 _ _ ?_
  ((repeat' (((repeat ((conv => whnf); first | refine brT ?_ | refine brF ?_)); conv => whnf); (refine And.intro ?_ ?_ <;> (intro h; rw [h]; revert h; intro _)))); all_goals ((repeat ((conv => whnf); first | refine brT ?_ | refine brF ?_)); conv => whnf))
  all_goals (refine fin ?_; simp_all)
/-- With this sex, the rule's parts go together. -/
def okS (fr to : List Pr) (s : Int) : Bool := !typB s fr || (typB s to && eqI (lastT s fr) (lastT s to))
theorem okS_1 {fr to : List Pr} {s : Int} (h : typB s fr = false) : okS fr to s = true := by unfold okS; rw [h]; rfl
theorem okS_2 {fr to : List Pr} {s : Int} (h : typB s fr = true) (h1 : typB s to = false) : okS fr to s = false := by unfold okS; rw [h, h1]; rfl
theorem okS_3 {fr to : List Pr} {s : Int} {b : Bool} (h : typB s fr = true) (h1 : typB s to = true) (h2 : eqI (sexR s fr) (sexR s to) = b) : okS fr to s = b := by
  unfold okS; unfold sexR at h2; rw [h, h1] at *; simpa using h2
def sexL (x : Int) : List Int := match eqI x 0 with | true => [1, 2] | false => [x]
def keepB (x : Int) (fr to : List Pr) : Bool := (sexL x).all (okS fr to) && (sexL x).any fun s => typB s fr

theorem all_take_succ {f : Int → Bool} {L : List Int} {k : Nat} (hk : k < L.length) (h : (L.take k).all f = true) (h1 : f L[k] = true) : (L.take (k + 1)).all f = true := by
  rw [List.take_succ_eq_append_getElem hk, List.all_append, h]; simp [h1]
theorem any_take_succ {f : Int → Bool} {L : List Int} {k : Nat} (hk : k < L.length) : (L.take (k + 1)).any f = ((L.take k).any f || f L[k]) := by
  rw [List.take_succ_eq_append_getElem hk, List.any_append]; simp
theorem all_no {f : Int → Bool} {L : List Int} {k : Nat} (hk : k < L.length) (h1 : f L[k] = false) : L.all f = false := by
  rw [List.all_eq_false]
  exact ⟨L[k], List.getElem_mem hk, by simp [h1]⟩
theorem keepsSexes_spec (r : Rul) : FSpec env.P 196 [r.lv] (.bool (keepB r.sex r.fr r.to)) := by
  refine FSpec_of_code env_ok (fn := Try.f196) Try.func196 rfl Try.call196 _ _ ?_
  ((repeat ((conv => whnf); first | refine brT ?_ | refine brF ?_)); conv => whnf)
  (refine ⟨fun h0 => ?_, fun h0 => ?_⟩ <;> rw [h0])
  · have hL : sexL r.sex = [1, 2] := by unfold sexL; rw [h0]
    generalize hg : ([1, 2] : List Int) = L at hL
    have hl : L.length = 2 := by rw [← hg]; rfl
    ((repeat ((conv => whnf); first | refine brT ?_ | refine brF ?_)); conv => whnf)
    refine ⟨rfl, ?_⟩
    ((repeat ((conv => whnf); first | refine brT ?_ | refine brF ?_)); conv => whnf)
    intro _
    ((repeat ((conv => whnf); first | refine brT ?_ | refine brF ?_)); conv => whnf)
    refine loop_rule (α := Nat) (fun k => [(18, .int .i64 (k : Int)), (4, .bool ((L.take k).any fun s => typB s r.fr))]) (fun _ => [.box r.lv, .arr 3 1 [.int .i64 r.sex], .arr 3 1 (L.map fun x => .int .i64 x)]) (fun k => 2 - k)
      (fun k => k ≤ 2 ∧ (L.take k).all (okS r.fr r.to) = true) 0 ⟨Nat.zero_le _, rfl⟩ ?_ ?_
    · subst hg
      refine ⟨?_, ?_, rfl, rfl⟩
      · ((repeat ((conv => whnf); refine ⟨rfl, ?_⟩)); trivial)
      · ((repeat ((conv => whnf); refine ⟨rfl, ?_⟩)); trivial)
    rintro k ⟨hk, hz⟩
    ((repeat ((conv => whnf); first | refine brT ?_ | refine brF ?_)); conv => whnf)
    (refine ⟨fun h1 => ?_, fun h1 => ?_⟩ <;> rw [h1])
    · have hlt : k < 2 := by rw [ltI_t] at h1; simp at h1; omega
      have hlt2 : k < L.length := by omega
      ((repeat ((conv => whnf); first | refine brT ?_ | refine brF ?_)); conv => whnf)
      refine ⟨by simp [hl], rfl, k, rfl, by simp [hl]; omega, ?_⟩
      ((repeat ((conv => whnf); first | refine brT ?_ | refine brF ?_)); conv => whnf)
      refine ⟨by simp [hl], by simp, .int .i64 L[k], by simp [getP, hlt2], rfl, ?_⟩
      ((repeat ((conv => whnf); first | refine brT ?_ | refine brF ?_)); conv => whnf)
      refine ⟨false, 0, 0, 0, [0, 1, 2, 3, 4, 5, 6, 7], (.alt 8 (.one 9 (.one 10 (.one 11 .done))) (.one 9 (.one 8 (.one 10 (.one 11 .done))))), by kernel_rfl, ?_⟩
      ((repeat ((conv => whnf); first | refine brT ?_ | refine brF ?_)); conv => whnf)
      apply Exists.intro
      apply Exists.intro
      refine And.intro ?_ ?_
      · refine ⟨?_, ?_⟩
        · ((repeat ((conv => whnf); first | refine brT ?_ | refine brF ?_)); conv => whnf)
          refine Weak.idn ?_ ?_ rfl
          · ((repeat ((conv => whnf); refine ⟨rfl, ?_⟩)); trivial)
          · exact ⟨rfl, rfl, rfl, rfl, rfl, trivial⟩
        · ((repeat ((conv => whnf); first | refine brT ?_ | refine brF ?_)); conv => whnf)
          refine .inr ⟨[.old 0, .old 1, .old 2, .old 4, .old 3], ?_, ⟨rfl, rfl, rfl, rfl, rfl, rfl, rfl, rfl, rfl, rfl, trivial⟩, rfl⟩
          ((repeat ((conv => whnf); refine ⟨rfl, rfl, ?_⟩)); trivial)
      ((repeat ((conv => whnf); first | refine brT ?_ | refine brF ?_)); conv => whnf)
      refine ⟨_, isType_impl L[k] r.fr, ?_⟩
      ((repeat ((conv => whnf); first | refine brT ?_ | refine brF ?_)); conv => whnf)
      have e := step_i hlt (show 2 ≤ Go.maxLen by decide)
      (refine ⟨fun h2 => ?_, fun h2 => ?_⟩ <;> rw [h2])
      · rw [notB_t] at h2
        ((repeat ((conv => whnf); first | refine brT ?_ | refine brF ?_)); conv => whnf)
        refine round_end (k + 1) ⟨hlt, all_take_succ hlt2 hz (okS_1 h2)⟩ (by omega) ⟨?_, ⟨rfl, rfl, rfl, trivial⟩, rfl, rfl⟩
        have e2 : LV.bool ((L.take k).any fun s => typB s r.fr) = LV.bool ((L.take (k + 1)).any fun s => typB s r.fr) := by rw [any_take_succ hlt2, h2, Bool.or_false]
        (repeat ((conv => whnf); first | refine ⟨e, ?_⟩ | refine ⟨e2, ?_⟩ | refine ⟨rfl, ?_⟩))
        trivial
      rw [notB_f] at h2
      ((repeat ((conv => whnf); first | refine brT ?_ | refine brF ?_)); conv => whnf)
      refine ⟨true, by kernel_rfl, ?_⟩
      ((repeat ((conv => whnf); first | refine brT ?_ | refine brF ?_)); conv => whnf)
      refine ⟨_, isType_impl L[k] r.to, ?_⟩
      ((repeat ((conv => whnf); first | refine brT ?_ | refine brF ?_)); conv => whnf)
      (refine ⟨fun h3 => ?_, fun h3 => ?_⟩ <;> rw [h3])
      · rw [notB_t] at h3
        ((repeat ((conv => whnf); first | refine brT ?_ | refine brF ?_)); conv => whnf)
        exact fin (by unfold keepB; rw [hL, all_no hlt2 (okS_2 h2 h3)]; rfl)
      rw [notB_f] at h3
      ((repeat ((conv => whnf); first | refine brT ?_ | refine brF ?_)); conv => whnf)
      refine ⟨_, sexOfType_impl L[k] r.fr, ?_⟩
      ((repeat ((conv => whnf); first | refine brT ?_ | refine brF ?_)); conv => whnf)
      refine ⟨_, sexOfType_impl L[k] r.to, ?_⟩
      ((repeat ((conv => whnf); first | refine brT ?_ | refine brF ?_)); conv => whnf)
      (refine ⟨fun h4 => ?_, fun h4 => ?_⟩ <;> rw [h4])
      · rw [notB_t] at h4
        ((repeat ((conv => whnf); first | refine brT ?_ | refine brF ?_)); conv => whnf)
        exact fin (by unfold keepB; rw [hL, all_no hlt2 (okS_3 h2 h3 h4)]; rfl)
      rw [notB_f] at h4
      ((repeat ((conv => whnf); first | refine brT ?_ | refine brF ?_)); conv => whnf)
      refine round_end (k + 1) ⟨hlt, all_take_succ hlt2 hz (okS_3 h2 h3 h4)⟩ (by omega) ⟨?_, ⟨rfl, rfl, rfl, trivial⟩, rfl, rfl⟩
      have e2 : LV.bool true = LV.bool ((L.take (k + 1)).any fun s => typB s r.fr) := by rw [any_take_succ hlt2, h2, Bool.or_true]
      (repeat ((conv => whnf); first | refine ⟨e, ?_⟩ | refine ⟨e2, ?_⟩ | refine ⟨rfl, ?_⟩))
      trivial
    · have h5 : k = 2 := by rw [ltI_f] at h1; simp at h1; omega
      subst h5
      ((repeat ((conv => whnf); first | refine brT ?_ | refine brF ?_)); conv => whnf)
      refine fin ?_
      rw [List.take_of_length_le (by omega)] at hz ⊢
      unfold keepB
      rw [hL, hz, Bool.true_and]
  · have hL : sexL r.sex = [r.sex] := by unfold sexL; rw [h0]
    generalize hg : ([r.sex] : List Int) = L at hL
    have hl : L.length = 1 := by rw [← hg]; rfl
    ((repeat ((conv => whnf); first | refine brT ?_ | refine brF ?_)); conv => whnf)
    refine ⟨rfl, ?_⟩
    ((repeat ((conv => whnf); first | refine brT ?_ | refine brF ?_)); conv => whnf)
    intro _
    ((repeat ((conv => whnf); first | refine brT ?_ | refine brF ?_)); conv => whnf)
    refine loop_rule (α := Nat) (fun k => [(18, .int .i64 (k : Int)), (4, .bool ((L.take k).any fun s => typB s r.fr))]) (fun _ => [.box r.lv, .arr 3 1 (L.map fun x => .int .i64 x)]) (fun k => 1 - k)
      (fun k => k ≤ 1 ∧ (L.take k).all (okS r.fr r.to) = true) 0 ⟨Nat.zero_le _, rfl⟩ ?_ ?_
    · subst hg
      refine ⟨?_, ?_, rfl, rfl⟩
      · ((repeat ((conv => whnf); refine ⟨rfl, ?_⟩)); trivial)
      · ((repeat ((conv => whnf); refine ⟨rfl, ?_⟩)); trivial)
    rintro k ⟨hk, hz⟩
    ((repeat ((conv => whnf); first | refine brT ?_ | refine brF ?_)); conv => whnf)
    (refine ⟨fun h1 => ?_, fun h1 => ?_⟩ <;> rw [h1])
    · have hlt : k < 1 := by rw [ltI_t] at h1; simp at h1; omega
      have hlt2 : k < L.length := by omega
      ((repeat ((conv => whnf); first | refine brT ?_ | refine brF ?_)); conv => whnf)
      refine ⟨by simp [hl], rfl, k, rfl, by simp [hl]; omega, ?_⟩
      ((repeat ((conv => whnf); first | refine brT ?_ | refine brF ?_)); conv => whnf)
      refine ⟨by simp [hl], by simp, .int .i64 L[k], by simp [getP, hlt2], rfl, ?_⟩
      ((repeat ((conv => whnf); first | refine brT ?_ | refine brF ?_)); conv => whnf)
      refine ⟨false, 0, 0, 0, [0, 1, 2, 3, 4, 5, 6, 7], (.alt 8 (.one 9 (.one 10 (.one 11 .done))) (.one 9 (.one 8 (.one 10 (.one 11 .done))))), by kernel_rfl, ?_⟩
      ((repeat ((conv => whnf); first | refine brT ?_ | refine brF ?_)); conv => whnf)
      apply Exists.intro
      apply Exists.intro
      refine And.intro ?_ ?_
      · refine ⟨?_, ?_⟩
        · ((repeat ((conv => whnf); first | refine brT ?_ | refine brF ?_)); conv => whnf)
          refine Weak.idn ?_ ?_ rfl
          · ((repeat ((conv => whnf); refine ⟨rfl, ?_⟩)); trivial)
          · exact ⟨rfl, rfl, rfl, rfl, trivial⟩
        · ((repeat ((conv => whnf); first | refine brT ?_ | refine brF ?_)); conv => whnf)
          refine .inr ⟨[.old 0, .old 1, .old 3, .old 2], ?_, ⟨rfl, rfl, rfl, rfl, rfl, rfl, rfl, rfl, trivial⟩, rfl⟩
          ((repeat ((conv => whnf); refine ⟨rfl, rfl, ?_⟩)); trivial)
      ((repeat ((conv => whnf); first | refine brT ?_ | refine brF ?_)); conv => whnf)
      refine ⟨_, isType_impl L[k] r.fr, ?_⟩
      ((repeat ((conv => whnf); first | refine brT ?_ | refine brF ?_)); conv => whnf)
      have e := step_i hlt (show 1 ≤ Go.maxLen by decide)
      (refine ⟨fun h2 => ?_, fun h2 => ?_⟩ <;> rw [h2])
      · rw [notB_t] at h2
        ((repeat ((conv => whnf); first | refine brT ?_ | refine brF ?_)); conv => whnf)
        refine round_end (k + 1) ⟨hlt, all_take_succ hlt2 hz (okS_1 h2)⟩ (by omega) ⟨?_, ⟨rfl, rfl, trivial⟩, rfl, rfl⟩
        have e2 : LV.bool ((L.take k).any fun s => typB s r.fr) = LV.bool ((L.take (k + 1)).any fun s => typB s r.fr) := by rw [any_take_succ hlt2, h2, Bool.or_false]
        (repeat ((conv => whnf); first | refine ⟨e, ?_⟩ | refine ⟨e2, ?_⟩ | refine ⟨rfl, ?_⟩))
        trivial
      rw [notB_f] at h2
      ((repeat ((conv => whnf); first | refine brT ?_ | refine brF ?_)); conv => whnf)
      refine ⟨true, by kernel_rfl, ?_⟩
      ((repeat ((conv => whnf); first | refine brT ?_ | refine brF ?_)); conv => whnf)
      refine ⟨_, isType_impl L[k] r.to, ?_⟩
      ((repeat ((conv => whnf); first | refine brT ?_ | refine brF ?_)); conv => whnf)
      (refine ⟨fun h3 => ?_, fun h3 => ?_⟩ <;> rw [h3])
      · rw [notB_t] at h3
        ((repeat ((conv => whnf); first | refine brT ?_ | refine brF ?_)); conv => whnf)
        exact fin (by unfold keepB; rw [hL, all_no hlt2 (okS_2 h2 h3)]; rfl)
      rw [notB_f] at h3
      ((repeat ((conv => whnf); first | refine brT ?_ | refine brF ?_)); conv => whnf)
      refine ⟨_, sexOfType_impl L[k] r.fr, ?_⟩
      ((repeat ((conv => whnf); first | refine brT ?_ | refine brF ?_)); conv => whnf)
      refine ⟨_, sexOfType_impl L[k] r.to, ?_⟩
      ((repeat ((conv => whnf); first | refine brT ?_ | refine brF ?_)); conv => whnf)
      (refine ⟨fun h4 => ?_, fun h4 => ?_⟩ <;> rw [h4])
      · rw [notB_t] at h4
        ((repeat ((conv => whnf); first | refine brT ?_ | refine brF ?_)); conv => whnf)
        exact fin (by unfold keepB; rw [hL, all_no hlt2 (okS_3 h2 h3 h4)]; rfl)
      rw [notB_f] at h4
      ((repeat ((conv => whnf); first | refine brT ?_ | refine brF ?_)); conv => whnf)
      refine round_end (k + 1) ⟨hlt, all_take_succ hlt2 hz (okS_3 h2 h3 h4)⟩ (by omega) ⟨?_, ⟨rfl, rfl, trivial⟩, rfl, rfl⟩
      have e2 : LV.bool true = LV.bool ((L.take (k + 1)).any fun s => typB s r.fr) := by rw [any_take_succ hlt2, h2, Bool.or_true]
      (repeat ((conv => whnf); first | refine ⟨e, ?_⟩ | refine ⟨e2, ?_⟩ | refine ⟨rfl, ?_⟩))
      trivial
    · have h5 : k = 1 := by rw [ltI_f] at h1; simp at h1; omega
      subst h5
      ((repeat ((conv => whnf); first | refine brT ?_ | refine brF ?_)); conv => whnf)
      refine fin ?_
      rw [List.take_of_length_le (by omega)] at hz ⊢
      unfold keepB
      rw [hL, hz, Bool.true_and]
end Go.Proofs.Ytpfipmjmblgjfaa

namespace Go.Proofs.Ytpfipmjmblgjfaa
open Go.Lg Go.Pm
set_option maxHeartbeats 6400000
set_option maxRecDepth 10000
set_option linter.unusedVariables false
set_option linter.unusedSimpArgs false

/-! ### Types as permutations -/
def unitTo (n k : Nat) : List LV := ((unit n).take k).map intLV ++ List.replicate (n - k) (intLV 0)
theorem identity_h (n : Nat) (hb : n ≤ 1048576) : HSpec env.P 115 [.int .i64 (n : Int)] [] (.hs 0 ((unit n).map intLV).length) [.arr 3 1 ((unit n).map intLV)] := by
  refine HSpec_of_code (E := env.x [] 0) env_ok.x (fn := Try.f115) Try.func115 rfl Try.call115 _ _ _ _ ?_
  have hp' : n ≤ Go.maxLen := by unfold Go.maxLen; omega
  have hu := unit_len n
  ((repeat ((conv => whnf); first | refine brT ?_ | refine brF ?_)); conv => whnf)
  refine ⟨n, by simp, by simp, by show 8 * n ≤ _; omega, hp', rfl, by decide, ?_⟩
  ((repeat ((conv => whnf); first | refine brT ?_ | refine brF ?_)); conv => whnf)
  refine ⟨by simp, fun _ => ?_⟩
  ((repeat ((conv => whnf); first | refine brT ?_ | refine brF ?_)); conv => whnf)
  refine loop_rule (α := Nat) (fun k => [(9, .int .i64 (k : Int))]) (fun k => [.arr 3 1 (fillLV intLV (intLV 0) (unit n) k)]) (fun k => n - k) (fun k => k ≤ n) 0 (Nat.zero_le _) ?_ ?_
  · refine ⟨?_, ⟨by simp [fillLV, intLV, hu], trivial⟩, rfl, rfl⟩
    ((repeat ((conv => whnf); refine ⟨rfl, ?_⟩)); trivial)
  intro k hk
  have hfl : (fillLV intLV (intLV 0) (unit n) k).length = n := by rw [fill_len (by omega), hu]
  ((repeat ((conv => whnf); first | refine brT ?_ | refine brF ?_)); conv => whnf)
  (refine ⟨fun h1 => ?_, fun h1 => ?_⟩ <;> rw [h1])
  · have hlt : k < n := by rw [ltI_t] at h1; simp at h1; omega
    have hlu : k < (unit n).length := by omega
    have e := step_i hlt hp'
    have eu : (unit n)[k] = (k : Int) := by simp [unit]
    ((repeat ((conv => whnf); first | refine brT ?_ | refine brF ?_)); conv => whnf)
    refine ⟨hfl.symm, rfl, k, rfl, by rw [hfl]; exact hlt, ?_⟩
    ((repeat ((conv => whnf); first | refine brT ?_ | refine brF ?_)); conv => whnf)
    refine ⟨hfl.symm, k, [], intLV 0, rfl, by simp [getP, fill_get hlu], rfl, rfl, rfl, fillLV intLV (intLV 0) (unit n) (k + 1), by rw [fill_get hlu, ← fill_set hlu, eu]; rfl, ?_⟩
    ((repeat ((conv => whnf); first | refine brT ?_ | refine brF ?_)); conv => whnf)
    refine round_end (k + 1) hlt (by omega) ⟨?_, ⟨rfl, trivial⟩, rfl, rfl⟩
    ((repeat ((conv => whnf); first | refine ⟨e, ?_⟩ | refine ⟨rfl, ?_⟩)); trivial)
  · have h4 : k = n := by rw [ltI_f] at h1; simp at h1; omega
    subst h4
    have e5 : fillLV intLV (intLV 0) (unit k) k = (unit k).map intLV := by
      have := fill_all (lv := intLV) (z := intLV 0) (ps := unit k)
      rwa [hu] at this
    ((repeat ((conv => whnf); first | refine brT ?_ | refine brF ?_)); conv => whnf)
    rw [e5]
    exact ⟨[.hs 0 k], by simp [tupOf, hu], rfl, .inl ⟨⟨rfl, trivial⟩, ⟨rfl, trivial⟩, rfl, rfl⟩⟩
/-- Where a step leads from each class. -/
def stpL (w c : List Int) (k sx : Int) : List Int :=
  match eqI k 1 with
  | true => invL c
  | false => match eqI k 2 with
    | true => cmpL (invL c) w
    | false => match (eqI k 5 || eqI k 6) with
      | true => (match eqI sx 2 with | true => cmpL (invL w) c | false => c)
      | false => match eqI k 7 with
        | true => invL w
        | false => match eqI k 8 with
          | true => w
          | false => unit w.length
theorem step_f (w c : List Int) (s : Pr) (sx : Int) (h1 : w.length ≤ 1048576) (h2 : c.length ≤ 1048576) : FSpec env.P 117 [clsLV w c, s.lv, .int .i64 sx] (rowSl (stpL w c s.a sx)) := by
  have iw := ints_f (inv_impl w (by omega))
  have ic := ints_f (inv_impl c (by omega))
  have lw := invL_len w
  have lc := invL_len c
  have un := ints_f (identity_h w.length h1)
  have cw := ints_f (compose_impl (invL c) w (by omega) (by omega))
  have cc := ints_f (compose_impl (invL w) c (by omega) (by omega))
  unfold stpL
  refine FSpec_of_code env_ok (fn := Try.f117) Try.func117 rfl Try.call117 _ _ ?_
  ((repeat ((conv => whnf); first | refine brT ?_ | refine brF ?_)); conv => whnf)
  (refine ⟨fun g1 => ?_, fun g1 => ?_⟩ <;> rw [g1])
  · ((repeat ((conv => whnf); first | refine brT ?_ | refine brF ?_)); conv => whnf)
    refine ⟨_, ic, ?_⟩
    ((repeat ((conv => whnf); first | refine brT ?_ | refine brF ?_)); conv => whnf)
    exact ⟨rfl, List.nodup_nil⟩
  ((repeat ((conv => whnf); first | refine brT ?_ | refine brF ?_)); conv => whnf)
  (refine ⟨fun g2 => ?_, fun g2 => ?_⟩ <;> rw [g2])
  · ((repeat ((conv => whnf); first | refine brT ?_ | refine brF ?_)); conv => whnf)
    refine ⟨true, by kernel_rfl, ?_⟩
    ((repeat ((conv => whnf); first | refine brT ?_ | refine brF ?_)); conv => whnf)
    refine ⟨_, ic, ?_⟩
    ((repeat ((conv => whnf); first | refine brT ?_ | refine brF ?_)); conv => whnf)
    refine ⟨_, cw, ?_⟩
    ((repeat ((conv => whnf); first | refine brT ?_ | refine brF ?_)); conv => whnf)
    exact ⟨rfl, List.nodup_nil⟩
  ((repeat ((conv => whnf); first | refine brT ?_ | refine brF ?_)); conv => whnf)
  (refine ⟨fun g5 => ?_, fun g5 => ?_⟩ <;> rw [g5])
  · ((repeat ((conv => whnf); first | refine brT ?_ | refine brF ?_)); conv => whnf)
    (refine ⟨fun g6 => ?_, fun g6 => ?_⟩ <;> rw [g6])
    · ((repeat ((conv => whnf); first | refine brT ?_ | refine brF ?_)); conv => whnf)
      refine ⟨true, by kernel_rfl, ?_⟩
      ((repeat ((conv => whnf); first | refine brT ?_ | refine brF ?_)); conv => whnf)
      refine ⟨_, iw, ?_⟩
      ((repeat ((conv => whnf); first | refine brT ?_ | refine brF ?_)); conv => whnf)
      refine ⟨_, cc, ?_⟩
      ((repeat ((conv => whnf); first | refine brT ?_ | refine brF ?_)); conv => whnf)
      exact ⟨rfl, List.nodup_nil⟩
    · ((repeat ((conv => whnf); first | refine brT ?_ | refine brF ?_)); conv => whnf)
      exact ⟨rfl, List.nodup_nil⟩
  ((repeat ((conv => whnf); first | refine brT ?_ | refine brF ?_)); conv => whnf)
  (refine ⟨fun g6 => ?_, fun g6 => ?_⟩ <;> rw [g6])
  · ((repeat ((conv => whnf); first | refine brT ?_ | refine brF ?_)); conv => whnf)
    (refine ⟨fun g9 => ?_, fun g9 => ?_⟩ <;> rw [g9])
    · ((repeat ((conv => whnf); first | refine brT ?_ | refine brF ?_)); conv => whnf)
      refine ⟨true, by kernel_rfl, ?_⟩
      ((repeat ((conv => whnf); first | refine brT ?_ | refine brF ?_)); conv => whnf)
      refine ⟨_, iw, ?_⟩
      ((repeat ((conv => whnf); first | refine brT ?_ | refine brF ?_)); conv => whnf)
      refine ⟨_, cc, ?_⟩
      ((repeat ((conv => whnf); first | refine brT ?_ | refine brF ?_)); conv => whnf)
      exact ⟨rfl, List.nodup_nil⟩
    · ((repeat ((conv => whnf); first | refine brT ?_ | refine brF ?_)); conv => whnf)
      exact ⟨rfl, List.nodup_nil⟩
  ((repeat ((conv => whnf); first | refine brT ?_ | refine brF ?_)); conv => whnf)
  (refine ⟨fun g7 => ?_, fun g7 => ?_⟩ <;> rw [g7])
  · ((repeat ((conv => whnf); first | refine brT ?_ | refine brF ?_)); conv => whnf)
    refine ⟨_, iw, ?_⟩
    ((repeat ((conv => whnf); first | refine brT ?_ | refine brF ?_)); conv => whnf)
    exact ⟨rfl, List.nodup_nil⟩
  ((repeat ((conv => whnf); first | refine brT ?_ | refine brF ?_)); conv => whnf)
  (refine ⟨fun g8 => ?_, fun g8 => ?_⟩ <;> rw [g8])
  · ((repeat ((conv => whnf); first | refine brT ?_ | refine brF ?_)); conv => whnf)
    exact ⟨rfl, List.nodup_nil⟩
  ((repeat ((conv => whnf); first | refine brT ?_ | refine brF ?_)); conv => whnf)
  intro _
  rw [List.length_map]
  ((repeat ((conv => whnf); first | refine brT ?_ | refine brF ?_)); conv => whnf)
  refine ⟨_, un, ?_⟩
  ((repeat ((conv => whnf); first | refine brT ?_ | refine brF ?_)); conv => whnf)
  exact ⟨rfl, List.nodup_nil⟩

/-! ### The model's way -/
def stpV (w c : List Int) (k sx x : Int) : Int :=
  let fa := (inv c).getD x.toNat 0
  let hu := (inv w).getD x.toNat 0
  match eqI k 1 with
  | true => fa
  | false => match eqI k 2 with
    | true => w.getD fa.toNat 0
    | false => match (eqI k 5 || eqI k 6) with
      | true => (match eqI sx 1 with | true => c.getD x.toNat 0 | false => c.getD hu.toNat 0)
      | false => match eqI k 7 with
        | true => hu
        | false => match eqI k 8 with
          | true => w.getD x.toNat 0
          | false => x
theorem invL_ok {ps : List Int} (h : permB ps = true) : invL ps = inv ps := by unfold invL; rw [h]
theorem inv_lt {ps : List Int} (h : permB ps = true) {x : Int} (h0 : 0 ≤ x) (hx : x.toNat < ps.length) : 0 ≤ (inv ps).getD x.toNat 0 ∧ ((inv ps).getD x.toNat 0).toNat < ps.length := by
  have hl := inv_len ps
  have := perm_in (perm_inv h) (show x.toNat < (inv ps).length by rw [hl]; exact hx)
  rw [getD_lt (by rw [hl]; exact hx)]
  omega
theorem idx {q : List Int} {y : Int} (e1 : 0 ≤ y) (e2 : y.toNat < q.length) : y = ((y.toNat : Nat) : Int) ∧ (q.map intLV)[y.toNat]? = some (intLV (q.getD y.toNat 0)) :=
  ⟨by omega, by rw [List.getElem?_map, List.getElem?_eq_getElem e2, getD_lt e2]; rfl⟩
theorem l6Step_spec (w c : List Int) (k sx x : Int) (hc : clsB w c = true) (h0 : 0 ≤ x) (hx : x.toNat < w.length) : FSpec env.P 163 [clsLV w c, .int .i64 k, .int .i64 sx, .int .i64 x] (.int .i64 (stpV w c k sx x)) := by
  obtain ⟨n1, n8, hl, pw, pc⟩ := clsB_at hc
  have iw := ints_f (inv_spec w (by omega))
  have ic := ints_f (inv_spec c (by omega))
  rw [invL_ok pw] at iw
  rw [invL_ok pc] at ic
  have lw := inv_lt pw h0 hx
  have lc := inv_lt pc h0 (by omega)
  have hxi : x = (x.toNat : Int) := by omega
  unfold stpV
  refine FSpec_of_code env_ok (fn := Try.f163) Try.func163 rfl Try.call163 _ _ ?_
  ((repeat ((conv => whnf); first | refine brT ?_ | refine brF ?_)); conv => whnf)
  refine ⟨_, ic, ?_⟩
  ((repeat ((conv => whnf); first | refine brT ?_ | refine brF ?_)); conv => whnf)
  refine ⟨x.toNat, intLV ((inv c).getD x.toNat 0), hxi, by rw [List.getElem?_map, List.getElem?_eq_getElem (by rw [inv_len]; omega), getD_lt (by rw [inv_len]; omega)]; rfl, rfl, ?_⟩
  ((repeat ((conv => whnf); first | refine brT ?_ | refine brF ?_)); conv => whnf)
  refine ⟨_, iw, ?_⟩
  ((repeat ((conv => whnf); first | refine brT ?_ | refine brF ?_)); conv => whnf)
  refine ⟨x.toNat, intLV ((inv w).getD x.toNat 0), hxi, by rw [List.getElem?_map, List.getElem?_eq_getElem (by rw [inv_len]; omega), getD_lt (by rw [inv_len]; omega)]; rfl, rfl, ?_⟩
  generalize (inv c).getD x.toNat 0 = fa at lc
  generalize (inv w).getD x.toNat 0 = hu at lw
  have hxc : x.toNat < c.length := by omega
  have hhc : hu.toNat < c.length := by omega
  have hfw : fa.toNat < w.length := by omega
  ((repeat ((conv => whnf); first | refine brT ?_ | refine brF ?_)); conv => whnf)
  (refine ⟨fun g1 => ?_, fun g1 => ?_⟩ <;> rw [g1])
  · ((repeat ((conv => whnf); first | refine brT ?_ | refine brF ?_)); conv => whnf)
    exact ⟨rfl, rfl, List.nodup_nil⟩
  ((repeat ((conv => whnf); first | refine brT ?_ | refine brF ?_)); conv => whnf)
  (refine ⟨fun g2 => ?_, fun g2 => ?_⟩ <;> rw [g2])
  · ((repeat ((conv => whnf); first | refine brT ?_ | refine brF ?_)); conv => whnf)
    refine ⟨fa.toNat, _, (idx (q := w) lc.1 hfw).1, (idx (q := w) lc.1 hfw).2, rfl, ?_⟩
    ((repeat ((conv => whnf); first | refine brT ?_ | refine brF ?_)); conv => whnf)
    exact ⟨rfl, rfl, List.nodup_nil⟩
  ((repeat ((conv => whnf); first | refine brT ?_ | refine brF ?_)); conv => whnf)
  (refine ⟨fun g5 => ?_, fun g5 => ?_⟩ <;> rw [g5])
  · ((repeat ((conv => whnf); first | refine brT ?_ | refine brF ?_)); conv => whnf)
    (refine ⟨fun g6 => ?_, fun g6 => ?_⟩ <;> rw [g6])
    · ((repeat ((conv => whnf); first | refine brT ?_ | refine brF ?_)); conv => whnf)
      refine ⟨x.toNat, _, (idx (q := c) h0 hxc).1, (idx (q := c) h0 hxc).2, rfl, ?_⟩
      ((repeat ((conv => whnf); first | refine brT ?_ | refine brF ?_)); conv => whnf)
      exact ⟨rfl, rfl, List.nodup_nil⟩
    · ((repeat ((conv => whnf); first | refine brT ?_ | refine brF ?_)); conv => whnf)
      refine ⟨hu.toNat, _, (idx (q := c) lw.1 hhc).1, (idx (q := c) lw.1 hhc).2, rfl, ?_⟩
      ((repeat ((conv => whnf); first | refine brT ?_ | refine brF ?_)); conv => whnf)
      exact ⟨rfl, rfl, List.nodup_nil⟩
  ((repeat ((conv => whnf); first | refine brT ?_ | refine brF ?_)); conv => whnf)
  (refine ⟨fun g6 => ?_, fun g6 => ?_⟩ <;> rw [g6])
  · ((repeat ((conv => whnf); first | refine brT ?_ | refine brF ?_)); conv => whnf)
    (refine ⟨fun g9 => ?_, fun g9 => ?_⟩ <;> rw [g9])
    · ((repeat ((conv => whnf); first | refine brT ?_ | refine brF ?_)); conv => whnf)
      refine ⟨x.toNat, _, (idx (q := c) h0 hxc).1, (idx (q := c) h0 hxc).2, rfl, ?_⟩
      ((repeat ((conv => whnf); first | refine brT ?_ | refine brF ?_)); conv => whnf)
      exact ⟨rfl, rfl, List.nodup_nil⟩
    · ((repeat ((conv => whnf); first | refine brT ?_ | refine brF ?_)); conv => whnf)
      refine ⟨hu.toNat, _, (idx (q := c) lw.1 hhc).1, (idx (q := c) lw.1 hhc).2, rfl, ?_⟩
      ((repeat ((conv => whnf); first | refine brT ?_ | refine brF ?_)); conv => whnf)
      exact ⟨rfl, rfl, List.nodup_nil⟩
  ((repeat ((conv => whnf); first | refine brT ?_ | refine brF ?_)); conv => whnf)
  (refine ⟨fun g7 => ?_, fun g7 => ?_⟩ <;> rw [g7])
  · ((repeat ((conv => whnf); first | refine brT ?_ | refine brF ?_)); conv => whnf)
    exact ⟨rfl, rfl, List.nodup_nil⟩
  ((repeat ((conv => whnf); first | refine brT ?_ | refine brF ?_)); conv => whnf)
  (refine ⟨fun g8 => ?_, fun g8 => ?_⟩ <;> rw [g8])
  · ((repeat ((conv => whnf); first | refine brT ?_ | refine brF ?_)); conv => whnf)
    refine ⟨x.toNat, _, (idx (q := w) h0 hx).1, (idx (q := w) h0 hx).2, rfl, ?_⟩
    ((repeat ((conv => whnf); first | refine brT ?_ | refine brF ?_)); conv => whnf)
    exact ⟨rfl, rfl, List.nodup_nil⟩
  ((repeat ((conv => whnf); first | refine brT ?_ | refine brF ?_)); conv => whnf)
  exact ⟨rfl, rfl, List.nodup_nil⟩
/-- Both ways are one. -/
theorem stp_perm {w c : List Int} (hc : clsB w c = true) (k sx : Int) : permB (stpL w c k sx) = true ∧ (stpL w c k sx).length = w.length := by
  obtain ⟨n1, n8, hl, pw, pc⟩ := clsB_at hc
  have e1 : cmpB (inv c) w = true := by unfold cmpB; rw [perm_inv pc, pw, inv_len, hl, eqI_refl]; rfl
  have e2 : cmpB (inv w) c = true := by unfold cmpB; rw [perm_inv pw, pc, inv_len, hl, eqI_refl]; rfl
  unfold stpL
  rw [invL_ok pw, invL_ok pc]
  unfold cmpL
  rw [e1, e2]
  simp only
  split
  · exact ⟨perm_inv pc, by rw [inv_len, hl]⟩
  · split
    · exact ⟨perm_cmp (perm_inv pc) pw (by rw [inv_len, hl]), by rw [cmp_len, inv_len, hl]⟩
    · split
      · split
        · exact ⟨perm_cmp (perm_inv pw) pc (by rw [inv_len, hl]), by rw [cmp_len, inv_len]⟩
        · exact ⟨pc, hl⟩
      · split
        · exact ⟨perm_inv pw, inv_len w⟩
        · split
          · exact ⟨pw, rfl⟩
          · exact ⟨perm_unit _, unit_len _⟩
theorem cmp_getD {ps qs : List Int} {i : Nat} (hi : i < ps.length) : (cmp ps qs).getD i 0 = qs.getD (ps.getD i 0).toNat 0 := by
  rw [getD_lt (by rw [cmp_len]; exact hi), getD_lt hi]
  simp [cmp]
theorem stp_same {w c : List Int} (hc : clsB w c = true) (k sx : Int) (hs : sx = 1 ∨ sx = 2) {x : Int} (h0 : 0 ≤ x) (hx : x.toNat < w.length) : stpV w c k sx x = (stpL w c k sx).getD x.toNat 0 := by
  obtain ⟨n1, n8, hl, pw, pc⟩ := clsB_at hc
  have e1 : cmpB (inv c) w = true := by unfold cmpB; rw [perm_inv pc, pw, inv_len, hl, eqI_refl]; rfl
  have e2 : cmpB (inv w) c = true := by unfold cmpB; rw [perm_inv pw, pc, inv_len, hl, eqI_refl]; rfl
  unfold stpL stpV
  rw [invL_ok pw, invL_ok pc]
  unfold cmpL
  rw [e1, e2]
  simp only
  cases g1 : eqI k 1 <;> simp only
  cases g2 : eqI k 2 <;> simp only
  rotate_left
  · rw [cmp_getD (by rw [inv_len]; omega)]
  cases g5 : (eqI k 5 || eqI k 6) <;> simp only
  · cases g7 : eqI k 7 <;> simp only
    cases g8 : eqI k 8 <;> simp only
    rw [getD_lt (by rw [unit_len]; exact hx)]
    simp [unit]; omega
  · rcases hs with rfl | rfl
    · rw [show eqI 1 1 = true by simp [eqI], show eqI 1 2 = false by simp [eqI]]
    · rw [show eqI 2 1 = false by simp [eqI], show eqI 2 2 = true by simp [eqI]]
      simp only
      rw [cmp_getD (by rw [inv_len]; omega)]
end Go.Proofs.Ytpfipmjmblgjfaa
