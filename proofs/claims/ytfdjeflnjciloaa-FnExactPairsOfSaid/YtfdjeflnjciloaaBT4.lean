/- Contracts of functions of the program and of its model, told over readings. -/
import Derived.Test.YtfdjeflnjciloaaBT3
namespace Go.Proofs.Ytfdjeflnjciloaa
open Go.Lg
set_option maxHeartbeats 400000
set_option maxRecDepth 10000
set_option linter.unusedVariables false
set_option linter.unusedSimpArgs false

theorem toPerson_spec (p : Per) : FSpec env.P 176 [p.lv] p.lv := by
  refine FSpec_of_code env_ok (fn := Try.f176) Try.func176 rfl Try.call176 _ _ ?_
  ((repeat ((conv => whnf); first | refine brT ?_ | refine brF ?_)); conv => whnf)
  refine ⟨_, rfl, rfl, ?_⟩
  repeat ((conv => whnf); refine ⟨rfl, ?_⟩)
  exact List.nodup_nil
theorem toUnion_spec (p : Uni) : FSpec env.P 177 [p.lv] p.lv := by
  refine FSpec_of_code env_ok (fn := Try.f177) Try.func177 rfl Try.call177 _ _ ?_
  ((repeat ((conv => whnf); first | refine brT ?_ | refine brF ?_)); conv => whnf)
  refine ⟨_, rfl, rfl, ?_⟩
  repeat ((conv => whnf); refine ⟨rfl, ?_⟩)
  exact List.nodup_nil

def szPer (n : Int) (p : Per) : Int := match ltI (IntKind.i64.wrap (n - (p.name.size : Int))) 0 with | true => -1 | false => IntKind.i64.wrap (n - (p.name.size : Int))
theorem szPerson_spec (p : Per) (n : Int) : FSpec env.P 175 [p.lv, .int .i64 n] (.int .i64 (szPer n p)) := by
  refine FSpec_of_code env_ok (fn := Try.f175) Try.func175 rfl Try.call175 _ _ ?_
  ((repeat ((conv => whnf); first | refine brT ?_ | refine brF ?_)); conv => whnf)
  intro hn
  ((repeat ((conv => whnf); first | refine brT ?_ | refine brF ?_)); conv => whnf)
  refine ⟨fun h => ?_, fun h => ?_⟩ <;> rw [h] <;> ((repeat ((conv => whnf); first | refine brT ?_ | refine brF ?_)); conv => whnf) <;> refine ⟨rfl, ?_, List.nodup_nil⟩ <;> simp only [szPer, h]

def szUnis (n : Int) (us : List Uni) : Int := match ltI (IntKind.i64.wrap (n - (us.length : Int))) 0 with | true => -1 | false => IntKind.i64.wrap (n - (us.length : Int))
theorem szUnionS_spec (us : List Uni) (n : Int) : FSpec env.P 126 [.sl (us.map Uni.lv), .int .i64 n] (.int .i64 (szUnis n us)) := by
  refine FSpec_of_code env_ok (fn := Try.f126) Try.func126 rfl Try.call126 _ _ ?_
  ((repeat ((conv => whnf); first | refine brT ?_ | refine brF ?_)); conv => whnf)
  intro hn
  ((repeat ((conv => whnf); first | refine brT ?_ | refine brF ?_)); conv => whnf)
  have e : ((us.map Uni.lv).length : Int) = (us.length : Int) := by simp
  rw [e]
  refine ⟨fun h => ?_, fun h => ?_⟩ <;> rw [h] <;> ((repeat ((conv => whnf); first | refine brT ?_ | refine brF ?_)); conv => whnf) <;> refine ⟨rfl, ?_, List.nodup_nil⟩ <;> simp only [szUnis, h] <;> simp

def szFold : Int → List Per → Int
  | n, [] => n
  | n, p :: ps => match ltI (szPer n p) 0 with | true => -1 | false => szFold (szPer n p) ps
def szPers (n : Int) (ps : List Per) : Int := match ltI (IntKind.i64.wrap (n - (ps.length : Int))) 0 with | true => -1 | false => szFold (IntKind.i64.wrap (n - (ps.length : Int))) ps

theorem szPersonS_spec (ps : List Per) (n : Int) : FSpec env.P 125 [.sl (ps.map Per.lv), .int .i64 n] (.int .i64 (szPers n ps)) := by
  refine FSpec_of_code env_ok (fn := Try.f125) Try.func125 rfl Try.call125 _ _ ?_
  ((repeat ((conv => whnf); first | refine brT ?_ | refine brF ?_)); conv => whnf)
  intro hn
  ((repeat ((conv => whnf); first | refine brT ?_ | refine brF ?_)); conv => whnf)
  have e : ((ps.map Per.lv).length : Int) = (ps.length : Int) := by simp
  have hp' : ps.length ≤ Go.maxLen := by simpa using hn
  rw [e]
  refine ⟨fun h => ?_, fun h => ?_⟩ <;> rw [h]
  · ((repeat ((conv => whnf); first | refine brT ?_ | refine brF ?_)); conv => whnf)
    refine ⟨rfl, ?_, List.nodup_nil⟩
    simp only [szPers, h]
  ((repeat ((conv => whnf); first | refine brT ?_ | refine brF ?_)); conv => whnf)
  refine loop_rule (α := Nat × Int) (fun x => [(1, .int .i64 x.2), (5, .int .i64 (x.1 : Int))]) (fun _ => []) (fun x => ps.length - x.1)
    (fun x => x.1 ≤ ps.length ∧ szFold x.2 (ps.drop x.1) = szPers n ps) (0, IntKind.i64.wrap (n - (ps.length : Int))) ⟨Nat.zero_le _, by simp only [szPers, h, List.drop_zero]⟩ ?_ ?_
  · refine ⟨?_, trivial, rfl, rfl⟩
    repeat ((conv => whnf); refine ⟨rfl, ?_⟩)
    trivial
  rintro ⟨k, c⟩ ⟨hk, hc⟩
  ((repeat ((conv => whnf); first | refine brT ?_ | refine brF ?_)); conv => whnf)
  intro _
  ((repeat ((conv => whnf); first | refine brT ?_ | refine brF ?_)); conv => whnf)
  rw [e]
  refine ⟨fun h1 => ?_, fun h1 => ?_⟩ <;> rw [h1]
  · have hlt : k < ps.length := by rw [ltI_t] at h1; simp at h1; omega
    have hd : ps.drop k = ps[k] :: ps.drop (k + 1) := List.drop_eq_getElem_cons hlt
    simp only [hd, szFold] at hc
    ((repeat ((conv => whnf); first | refine brT ?_ | refine brF ?_)); conv => whnf)
    refine ⟨k, ps[k].lv, rfl, by simp [hlt], rfl, ?_⟩
    ((repeat ((conv => whnf); first | refine brT ?_ | refine brF ?_)); conv => whnf)
    refine ⟨_, szPerson_spec ps[k] c, ?_⟩
    ((repeat ((conv => whnf); first | refine brT ?_ | refine brF ?_)); conv => whnf)
    refine ⟨fun h2 => ?_, fun h2 => ?_⟩ <;> rw [h2]
    · ((repeat ((conv => whnf); first | refine brT ?_ | refine brF ?_)); conv => whnf)
      refine ⟨rfl, ?_, List.nodup_nil⟩
      rw [← hc, h2]
    · rw [h2] at hc
      ((repeat ((conv => whnf); first | refine brT ?_ | refine brF ?_)); conv => whnf)
      refine round_end (k + 1, szPer c ps[k]) ⟨hlt, hc⟩ (by simp only; omega) ⟨?_, trivial, rfl, rfl⟩
      have e := step_i hlt hp'
      repeat ((conv => whnf); first | refine ⟨e, ?_⟩ | refine ⟨rfl, ?_⟩)
      trivial
  · have h3 : ps.length ≤ k := by rw [ltI_f] at h1; simp at h1; omega
    ((repeat ((conv => whnf); first | refine brT ?_ | refine brF ?_)); conv => whnf)
    refine ⟨rfl, ?_, List.nodup_nil⟩
    rw [← hc, List.drop_eq_nil_of_le h3]
    rfl

def szFam (n : Int) (ps : List Per) (us : List Uni) : Int := match ltI (szPers n ps) 0 with
  | true => -1
  | false => match ltI (szUnis (szPers n ps) us) 0 with | true => -1 | false => szUnis (szPers n ps) us
theorem szFamily_spec (ps : List Per) (us : List Uni) (n : Int) : FSpec env.P 48 [famLV ps us, .int .i64 n] (.int .i64 (szFam n ps us)) := by
  refine FSpec_of_code env_ok (fn := Try.f48) Try.func48 rfl Try.call48 _ _ ?_
  ((repeat ((conv => whnf); first | refine brT ?_ | refine brF ?_)); conv => whnf)
  refine ⟨_, szPersonS_spec ps n, ?_⟩
  ((repeat ((conv => whnf); first | refine brT ?_ | refine brF ?_)); conv => whnf)
  refine ⟨fun h => ?_, fun h => ?_⟩ <;> rw [h]
  · ((repeat ((conv => whnf); first | refine brT ?_ | refine brF ?_)); conv => whnf)
    refine ⟨rfl, ?_, List.nodup_nil⟩
    simp only [szFam, h]
  ((repeat ((conv => whnf); first | refine brT ?_ | refine brF ?_)); conv => whnf)
  refine ⟨_, szUnionS_spec us _, ?_⟩
  ((repeat ((conv => whnf); first | refine brT ?_ | refine brF ?_)); conv => whnf)
  refine ⟨fun h2 => ?_, fun h2 => ?_⟩ <;> rw [h2] <;> ((repeat ((conv => whnf); first | refine brT ?_ | refine brF ?_)); conv => whnf) <;> refine ⟨rfl, ?_, List.nodup_nil⟩ <;> simp only [szFam, h, h2]

theorem eqPerson_spec (p q : Per) : FSpec env.P 178 [p.lv, q.lv] (.bool (p.eq q)) := by
  refine FSpec_of_code env_ok (fn := Try.f178) Try.func178 rfl Try.call178 _ _ ?_
  ((repeat ((conv => whnf); first | refine brT ?_ | refine brF ?_)); conv => whnf)
  refine ⟨fun h => ?_, fun h => ?_⟩ <;> rw [h]
  · ((repeat ((conv => whnf); first | refine brT ?_ | refine brF ?_)); conv => whnf); rw [notB_t] at h; refine fin ?_; simp [Per.eq, h]
  rw [notB_f] at h
  ((repeat ((conv => whnf); first | refine brT ?_ | refine brF ?_)); conv => whnf)
  refine ⟨fun h1 => ?_, fun h1 => ?_⟩ <;> rw [h1]
  · ((repeat ((conv => whnf); first | refine brT ?_ | refine brF ?_)); conv => whnf); rw [notB_t] at h1; refine fin ?_; simp [Per.eq, h1]
  rw [notB_f] at h1
  ((repeat ((conv => whnf); first | refine brT ?_ | refine brF ?_)); conv => whnf)
  refine ⟨fun h2 => ?_, fun h2 => ?_⟩ <;> rw [h2]
  · ((repeat ((conv => whnf); first | refine brT ?_ | refine brF ?_)); conv => whnf); rw [notB_t] at h2; refine fin ?_; simp [Per.eq, h2]
  rw [notB_f] at h2
  ((repeat ((conv => whnf); first | refine brT ?_ | refine brF ?_)); conv => whnf)
  refine ⟨fun h3 => ?_, fun h3 => ?_⟩ <;> rw [h3]
  · ((repeat ((conv => whnf); first | refine brT ?_ | refine brF ?_)); conv => whnf); rw [notB_t] at h3; refine fin ?_; simp [Per.eq, h3]
  rw [notB_f] at h3
  ((repeat ((conv => whnf); first | refine brT ?_ | refine brF ?_)); conv => whnf)
  refine ⟨fun h4 => ?_, fun h4 => ?_⟩ <;> rw [h4]
  · ((repeat ((conv => whnf); first | refine brT ?_ | refine brF ?_)); conv => whnf); rw [notB_t] at h4; refine fin ?_; simp [Per.eq, h4]
  rw [notB_f] at h4
  ((repeat ((conv => whnf); first | refine brT ?_ | refine brF ?_)); conv => whnf)
  refine ⟨fun h5 => ?_, fun h5 => ?_⟩ <;> rw [h5]
  · ((repeat ((conv => whnf); first | refine brT ?_ | refine brF ?_)); conv => whnf); rw [notB_t] at h5; refine fin ?_; simp [Per.eq, h5]
  rw [notB_f] at h5
  ((repeat ((conv => whnf); first | refine brT ?_ | refine brF ?_)); conv => whnf)
  refine fin ?_
  simp [Per.eq, h, h1, h2, h3, h4, h5]
theorem eqUnion_spec (p q : Uni) : FSpec env.P 179 [p.lv, q.lv] (.bool (p.eq q)) := by
  refine FSpec_of_code env_ok (fn := Try.f179) Try.func179 rfl Try.call179 _ _ ?_
  ((repeat ((conv => whnf); first | refine brT ?_ | refine brF ?_)); conv => whnf)
  refine ⟨fun h => ?_, fun h => ?_⟩ <;> rw [h]
  · ((repeat ((conv => whnf); first | refine brT ?_ | refine brF ?_)); conv => whnf); rw [notB_t] at h; refine fin ?_; simp [Uni.eq, h]
  rw [notB_f] at h
  ((repeat ((conv => whnf); first | refine brT ?_ | refine brF ?_)); conv => whnf)
  refine ⟨fun h1 => ?_, fun h1 => ?_⟩ <;> rw [h1]
  · ((repeat ((conv => whnf); first | refine brT ?_ | refine brF ?_)); conv => whnf); rw [notB_t] at h1; refine fin ?_; simp [Uni.eq, h1]
  rw [notB_f] at h1
  ((repeat ((conv => whnf); first | refine brT ?_ | refine brF ?_)); conv => whnf)
  refine ⟨fun h2 => ?_, fun h2 => ?_⟩ <;> rw [h2]
  · ((repeat ((conv => whnf); first | refine brT ?_ | refine brF ?_)); conv => whnf); rw [notB_t] at h2; refine fin ?_; simp [Uni.eq, h2]
  rw [notB_f] at h2
  ((repeat ((conv => whnf); first | refine brT ?_ | refine brF ?_)); conv => whnf)
  refine ⟨fun h3 => ?_, fun h3 => ?_⟩ <;> rw [h3]
  · ((repeat ((conv => whnf); first | refine brT ?_ | refine brF ?_)); conv => whnf); rw [notB_t] at h3; refine fin ?_; simp [Uni.eq, h3]
  rw [notB_f] at h3
  ((repeat ((conv => whnf); first | refine brT ?_ | refine brF ?_)); conv => whnf)
  refine fin ?_
  simp [Uni.eq, h, h1, h2, h3]
end Go.Proofs.Ytfdjeflnjciloaa
