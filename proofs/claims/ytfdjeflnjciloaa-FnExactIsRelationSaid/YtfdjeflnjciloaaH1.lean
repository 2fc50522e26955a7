/- Contracts of functions of the program and of its model, told over readings. -/
import Derived.Test.YtfdjeflnjciloaaM2
import Derived.Test.YtfdjeflnjciloaaV2
namespace Go.Proofs.Ytfdjeflnjciloaa
open Go.Lg
set_option maxHeartbeats 1600000
set_option maxRecDepth 10000
set_option linter.unusedVariables false
set_option linter.unusedSimpArgs false

theorem toPersonS_h (ps : List Per) (hb : 56 * ps.length ≤ 281474976710656) : HSpec env.P 127 [.sl (ps.map Per.lv)] [] (.hs 0 ps.length) [.arr 87 6 (ps.map Per.lv)] := by
  refine HSpec_of_code (E := env.x [] 0) env_ok.x (fn := Try.f127) Try.func127 rfl Try.call127 _ _ _ _ ?_
  ((repeat ((conv => whnf); first | refine brT ?_ | refine brF ?_)); conv => whnf)
  intro hp
  have hp' : ps.length ≤ Go.maxLen := by simpa using hp
  ((repeat ((conv => whnf); first | refine brT ?_ | refine brF ?_)); conv => whnf)
  refine ⟨ps.length, by simp, by simp, hb, hp', rfl, by decide, ?_⟩
  ((repeat ((conv => whnf); first | refine brT ?_ | refine brF ?_)); conv => whnf)
  refine loop_rule (α := Nat) (fun k => [(4, .int .i64 (k : Int))]) (fun k => [.arr 87 6 (fillLV Per.lv zPer ps k)]) (fun k => ps.length - k) (fun k => k ≤ ps.length) 0 (Nat.zero_le _) ?_ ?_
  · refine ⟨?_, ⟨by simp [zPer, fillLV], trivial⟩, rfl, rfl⟩
    repeat ((conv => whnf); refine ⟨rfl, ?_⟩)
    trivial
  rintro k hk
  ((repeat ((conv => whnf); first | refine brT ?_ | refine brF ?_)); conv => whnf)
  intro _
  ((repeat ((conv => whnf); first | refine brT ?_ | refine brF ?_)); conv => whnf)
  refine ⟨fun h1 => ?_, fun h1 => ?_⟩ <;> rw [h1]
  · have hlt : k < ps.length := by rw [ltI_t] at h1; simp at h1; omega
    ((repeat ((conv => whnf); first | refine brT ?_ | refine brF ?_)); conv => whnf)
    refine ⟨k, ps[k].lv, rfl, by simp [hlt], rfl, ?_⟩
    ((repeat ((conv => whnf); first | refine brT ?_ | refine brF ?_)); conv => whnf)
    refine ⟨_, toPerson_spec ps[k], ?_⟩
    ((repeat ((conv => whnf); first | refine brT ?_ | refine brF ?_)); conv => whnf)
    refine ⟨(fill_len hk).symm, rfl, k, rfl, by rw [fill_len hk]; exact hlt, ?_⟩
    ((repeat ((conv => whnf); first | refine brT ?_ | refine brF ?_)); conv => whnf)
    refine ⟨(fill_len hk).symm, k, [], zPer, rfl, by simp [getP, fill_get hlt], rfl, rfl, rfl, _, rfl, ?_⟩
    ((repeat ((conv => whnf); first | refine brT ?_ | refine brF ?_)); conv => whnf)
    refine round_end (k + 1) hlt (by omega) ⟨?_, ⟨?_, trivial⟩, rfl, rfl⟩
    · have e := step_i hlt hp'
      repeat ((conv => whnf); first | refine ⟨e, ?_⟩ | refine ⟨rfl, ?_⟩)
      trivial
    · have e3 : (match (fillLV Per.lv zPer ps k)[k]? with | some z => (fillLV Per.lv zPer ps k).set k (setP z [] ps[k].lv) | none => fillLV Per.lv zPer ps k) = fillLV Per.lv zPer ps (k + 1) := by
        rw [fill_get hlt]
        simp only [zPer, setP]
        exact fill_set hlt
      exact congrArg (Blk.arr 87 6) e3
  · have h3 : ps.length ≤ k := by rw [ltI_f] at h1; simp at h1; omega
    have h4 : k = ps.length := by omega
    subst h4
    ((repeat ((conv => whnf); first | refine brT ?_ | refine brF ?_)); conv => whnf)
    exact ⟨[.hs 0 ps.length], rfl, rfl, .inl ⟨⟨rfl, trivial⟩, ⟨congrArg (Blk.arr 87 6) fill_all, trivial⟩, rfl, rfl⟩⟩
theorem toUnionS_h (ps : List Uni) (hb : 32 * ps.length ≤ 281474976710656) : HSpec env.P 128 [.sl (ps.map Uni.lv)] [] (.hs 0 ps.length) [.arr 125 4 (ps.map Uni.lv)] := by
  refine HSpec_of_code (E := env.x [] 0) env_ok.x (fn := Try.f128) Try.func128 rfl Try.call128 _ _ _ _ ?_
  ((repeat ((conv => whnf); first | refine brT ?_ | refine brF ?_)); conv => whnf)
  intro hp
  have hp' : ps.length ≤ Go.maxLen := by simpa using hp
  ((repeat ((conv => whnf); first | refine brT ?_ | refine brF ?_)); conv => whnf)
  refine ⟨ps.length, by simp, by simp, hb, hp', rfl, by decide, ?_⟩
  ((repeat ((conv => whnf); first | refine brT ?_ | refine brF ?_)); conv => whnf)
  refine loop_rule (α := Nat) (fun k => [(4, .int .i64 (k : Int))]) (fun k => [.arr 125 4 (fillLV Uni.lv zUni ps k)]) (fun k => ps.length - k) (fun k => k ≤ ps.length) 0 (Nat.zero_le _) ?_ ?_
  · refine ⟨?_, ⟨by simp [zUni, fillLV], trivial⟩, rfl, rfl⟩
    repeat ((conv => whnf); refine ⟨rfl, ?_⟩)
    trivial
  rintro k hk
  ((repeat ((conv => whnf); first | refine brT ?_ | refine brF ?_)); conv => whnf)
  intro _
  ((repeat ((conv => whnf); first | refine brT ?_ | refine brF ?_)); conv => whnf)
  refine ⟨fun h1 => ?_, fun h1 => ?_⟩ <;> rw [h1]
  · have hlt : k < ps.length := by rw [ltI_t] at h1; simp at h1; omega
    ((repeat ((conv => whnf); first | refine brT ?_ | refine brF ?_)); conv => whnf)
    refine ⟨k, ps[k].lv, rfl, by simp [hlt], rfl, ?_⟩
    ((repeat ((conv => whnf); first | refine brT ?_ | refine brF ?_)); conv => whnf)
    refine ⟨_, toUnion_spec ps[k], ?_⟩
    ((repeat ((conv => whnf); first | refine brT ?_ | refine brF ?_)); conv => whnf)
    refine ⟨(fill_len hk).symm, rfl, k, rfl, by rw [fill_len hk]; exact hlt, ?_⟩
    ((repeat ((conv => whnf); first | refine brT ?_ | refine brF ?_)); conv => whnf)
    refine ⟨(fill_len hk).symm, k, [], zUni, rfl, by simp [getP, fill_get hlt], rfl, rfl, rfl, _, rfl, ?_⟩
    ((repeat ((conv => whnf); first | refine brT ?_ | refine brF ?_)); conv => whnf)
    refine round_end (k + 1) hlt (by omega) ⟨?_, ⟨?_, trivial⟩, rfl, rfl⟩
    · have e := step_i hlt hp'
      repeat ((conv => whnf); first | refine ⟨e, ?_⟩ | refine ⟨rfl, ?_⟩)
      trivial
    · have e3 : (match (fillLV Uni.lv zUni ps k)[k]? with | some z => (fillLV Uni.lv zUni ps k).set k (setP z [] ps[k].lv) | none => fillLV Uni.lv zUni ps k) = fillLV Uni.lv zUni ps (k + 1) := by
        rw [fill_get hlt]
        simp only [zUni, setP]
        exact fill_set hlt
      exact congrArg (Blk.arr 125 4) e3
  · have h3 : ps.length ≤ k := by rw [ltI_f] at h1; simp at h1; omega
    have h4 : k = ps.length := by omega
    subst h4
    ((repeat ((conv => whnf); first | refine brT ?_ | refine brF ?_)); conv => whnf)
    exact ⟨[.hs 0 ps.length], rfl, rfl, .inl ⟨⟨rfl, trivial⟩, ⟨congrArg (Blk.arr 125 4) fill_all, trivial⟩, rfl, rfl⟩⟩

def famHS (a b : Nat) : LV := .st [.hs 0 a, .hs 1 b]
theorem toFamily_h (ps : List Per) (us : List Uni) (hp : 56 * ps.length ≤ 281474976710656) (hu : 32 * us.length ≤ 281474976710656) :
    HSpec env.P 49 [famLV ps us] [] (famHS ps.length us.length) [.arr 87 6 (ps.map Per.lv), .arr 125 4 (us.map Uni.lv)] := by
  refine HSpec_of_code (E := env.x [127, 128] 0) env_ok.x (fn := Try.f49) Try.func49 rfl Try.call49 _ _ _ _ ?_
  ((repeat ((conv => whnf); first | refine brT ?_ | refine brF ?_)); conv => whnf)
  refine ⟨[], _, _, _, _, toPersonS_h ps hp, rfl, rfl, rfl, trivial, ?_⟩
  ((repeat ((conv => whnf); first | refine brT ?_ | refine brF ?_)); conv => whnf)
  refine ⟨[], _, _, _, _, toUnionS_h us hu, rfl, rfl, rfl, trivial, ?_⟩
  ((repeat ((conv => whnf); first | refine brT ?_ | refine brF ?_)); conv => whnf)
  refine ⟨[famHS ps.length us.length], rfl, rfl, .inr ⟨[.old 3, .old 4], ?_, ?_, rfl⟩⟩
  · ((repeat ((conv => whnf); refine ⟨rfl, rfl, ?_⟩)); trivial)
  · exact ⟨rfl, rfl, rfl, rfl, trivial⟩
end Go.Proofs.Ytfdjeflnjciloaa
