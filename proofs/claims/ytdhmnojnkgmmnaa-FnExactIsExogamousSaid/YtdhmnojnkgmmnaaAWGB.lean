/- Contracts of functions of the program and of its model, told over readings. -/
import Derived.Test.YtdhmnojnkgmmnaaAWGA
import Derived.Test.YtdhmnojnkgmmnaaALgPM
import Derived.Test.YtdhmnojnkgmmnaaALgMF
import Derived.Test.YtdhmnojnkgmmnaaALgWS
namespace Go.Proofs.Ytdhmnojnkgmmnaa
open Go.Lg
set_option maxHeartbeats 1600000
set_option maxRecDepth 10000
set_option linter.unusedVariables false
set_option linter.unusedSimpArgs false

theorem szIntS_spec (r : List Int) (l : Int) : FSpec env.P 118 [rowSl r, .int .i64 l] (.int .i64 (szN l r.length)) := by
  refine FSpec_of_code env_ok (fn := Try.f118) Try.func118 rfl Try.call118 _ _ ?_
  ((repeat ((conv => whnf); first | refine brT ?_ | refine brF ?_)); conv => whnf)
  intro hm
  rw [List.length_map]
  ((repeat ((conv => whnf); first | refine brT ?_ | refine brF ?_)); conv => whnf)
  (refine ⟨fun h => ?_, fun h => ?_⟩ <;> rw [h])
  · ((repeat ((conv => whnf); first | refine brT ?_ | refine brF ?_)); conv => whnf); exact ⟨rfl, by unfold szN; rw [h], List.nodup_nil⟩
  · ((repeat ((conv => whnf); first | refine brT ?_ | refine brF ?_)); conv => whnf); exact ⟨rfl, by unfold szN; rw [h], List.nodup_nil⟩
theorem toIntS_h (r : List Int) (hb : 8 * r.length ≤ 281474976710656) : HSpec env.P 35 [rowSl r] [] (.hs 0 (r.map intLV).length) [.arr 3 1 (r.map intLV)] := by
  refine HSpec_of_code (E := env.x [] 0) env_ok.x (fn := Try.f35) Try.func35 rfl Try.call35 _ _ _ _ ?_
  ((repeat ((conv => whnf); first | refine brT ?_ | refine brF ?_)); conv => whnf)
  intro hp
  have hp' : r.length ≤ Go.maxLen := by simpa using hp
  ((repeat ((conv => whnf); first | refine brT ?_ | refine brF ?_)); conv => whnf)
  refine ⟨r.length, by simp, by simp, hb, hp', rfl, by decide, ?_⟩
  ((repeat ((conv => whnf); first | refine brT ?_ | refine brF ?_)); conv => whnf)
  refine loop_rule (α := Nat) (fun k => [(4, .int .i64 (k : Int))]) (fun k => [.arr 3 1 (fillLV intLV (intLV 0) r k)]) (fun k => r.length - k) (fun k => k ≤ r.length) 0 (Nat.zero_le _) ?_ ?_
  · refine ⟨?_, ⟨by simp [fillLV, intLV], trivial⟩, rfl, rfl⟩
    ((repeat ((conv => whnf); refine ⟨rfl, ?_⟩)); trivial)
  rintro k hk
  ((repeat ((conv => whnf); first | refine brT ?_ | refine brF ?_)); conv => whnf)
  intro _
  ((repeat ((conv => whnf); first | refine brT ?_ | refine brF ?_)); conv => whnf)
  (refine ⟨fun h1 => ?_, fun h1 => ?_⟩ <;> rw [h1])
  · have hlt : k < r.length := by rw [ltI_t] at h1; simp at h1; omega
    ((repeat ((conv => whnf); first | refine brT ?_ | refine brF ?_)); conv => whnf)
    refine ⟨k, intLV r[k], rfl, by simp [hlt], rfl, ?_⟩
    ((repeat ((conv => whnf); first | refine brT ?_ | refine brF ?_)); conv => whnf)
    refine ⟨(fill_len hk).symm, rfl, k, rfl, by rw [fill_len hk]; exact hlt, ?_⟩
    ((repeat ((conv => whnf); first | refine brT ?_ | refine brF ?_)); conv => whnf)
    refine ⟨(fill_len hk).symm, k, [], intLV 0, rfl, by simp [getP, fill_get hlt], rfl, rfl, rfl, fillLV intLV (intLV 0) r (k + 1), by rw [fill_get hlt]; exact fill_set hlt, ?_⟩
    ((repeat ((conv => whnf); first | refine brT ?_ | refine brF ?_)); conv => whnf)
    refine round_end (k + 1) hlt (by omega) ⟨?_, ⟨rfl, trivial⟩, rfl, rfl⟩
    have e := step_i hlt hp'
    ((repeat ((conv => whnf); first | refine ⟨e, ?_⟩ | refine ⟨rfl, ?_⟩)); trivial)
  · have h4 : k = r.length := by rw [ltI_f] at h1; simp at h1; omega
    subst h4
    ((repeat ((conv => whnf); first | refine brT ?_ | refine brF ?_)); conv => whnf)
    exact ⟨[.hs 0 r.length], by simp [tupOf], rfl, .inl ⟨⟨rfl, trivial⟩, ⟨congrArg (Blk.arr 3 1) fill_all, trivial⟩, rfl, rfl⟩⟩
theorem toIntS_f (r : List Int) (hb : 8 * r.length ≤ 281474976710656) : FSpec env.P 35 [rowSl r] (rowOw r) := by
  refine FSpec_of_code env_ok (fn := Try.f35) Try.func35 rfl Try.call35 _ _ ?_
  ((repeat ((conv => whnf); first | refine brT ?_ | refine brF ?_)); conv => whnf)
  intro hp
  have hp' : r.length ≤ Go.maxLen := by simpa using hp
  ((repeat ((conv => whnf); first | refine brT ?_ | refine brF ?_)); conv => whnf)
  refine ⟨r.length, by simp, by simp, hb, hp', rfl, by decide, ?_⟩
  ((repeat ((conv => whnf); first | refine brT ?_ | refine brF ?_)); conv => whnf)
  refine loop_rule (α := Nat) (fun k => [(4, .int .i64 (k : Int))]) (fun k => [.arr 3 1 (fillLV intLV (intLV 0) r k)]) (fun k => r.length - k) (fun k => k ≤ r.length) 0 (Nat.zero_le _) ?_ ?_
  · refine ⟨?_, ⟨by simp [fillLV, intLV], trivial⟩, rfl, rfl⟩
    ((repeat ((conv => whnf); refine ⟨rfl, ?_⟩)); trivial)
  rintro k hk
  ((repeat ((conv => whnf); first | refine brT ?_ | refine brF ?_)); conv => whnf)
  intro _
  ((repeat ((conv => whnf); first | refine brT ?_ | refine brF ?_)); conv => whnf)
  (refine ⟨fun h1 => ?_, fun h1 => ?_⟩ <;> rw [h1])
  · have hlt : k < r.length := by rw [ltI_t] at h1; simp at h1; omega
    ((repeat ((conv => whnf); first | refine brT ?_ | refine brF ?_)); conv => whnf)
    refine ⟨k, intLV r[k], rfl, by simp [hlt], rfl, ?_⟩
    ((repeat ((conv => whnf); first | refine brT ?_ | refine brF ?_)); conv => whnf)
    refine ⟨(fill_len hk).symm, rfl, k, rfl, by rw [fill_len hk]; exact hlt, ?_⟩
    ((repeat ((conv => whnf); first | refine brT ?_ | refine brF ?_)); conv => whnf)
    refine ⟨(fill_len hk).symm, k, [], intLV 0, rfl, by simp [getP, fill_get hlt], rfl, rfl, rfl, fillLV intLV (intLV 0) r (k + 1), by rw [fill_get hlt]; exact fill_set hlt, ?_⟩
    ((repeat ((conv => whnf); first | refine brT ?_ | refine brF ?_)); conv => whnf)
    refine round_end (k + 1) hlt (by omega) ⟨?_, ⟨rfl, trivial⟩, rfl, rfl⟩
    have e := step_i hlt hp'
    ((repeat ((conv => whnf); first | refine ⟨e, ?_⟩ | refine ⟨rfl, ?_⟩)); trivial)
  · have h4 : k = r.length := by rw [ltI_f] at h1; simp at h1; omega
    subst h4
    ((repeat ((conv => whnf); first | refine brT ?_ | refine brF ?_)); conv => whnf)
    exact ⟨(fill_len (Nat.le_refl _)).symm, rfl, rfl, fill_all, by simp⟩
end Go.Proofs.Ytdhmnojnkgmmnaa

namespace Go.Proofs.Ytdhmnojnkgmmnaa
open Go.Lg Go.Pm
set_option maxHeartbeats 1600000
set_option maxRecDepth 10000
set_option linter.unusedVariables false
set_option linter.unusedSimpArgs false

/-! ### Places -/
def boLV (b : Bool) : LV := .bool b
theorem getZ (ps : List Int) {k : Nat} (h : k < ps.length) : ps.getD k 0 = ps[k] := getD_lt h
theorem memT {ps : List Int} {k i : Nat} (h : i < k) (hk : k ≤ ps.length) : ps[i] ∈ ps.take k := List.mem_take_iff_getElem.2 ⟨i, by omega, rfl⟩
theorem plc0 (d : Int) (ps : List Int) (n : Nat) : (plc d ps n 0).map intLV = List.replicate n (intLV d) := by simp [plc]
theorem fnd0 (ps : List Int) (n : Nat) : (fnd ps n 0).map boLV = List.replicate n (boLV false) := by simp [fnd]
theorem plcI {d : Int} {ps : List Int} {n k : Nat} (hk : k < ps.length) : ((plc d ps n k).map intLV).set ps[k].toNat (intLV (k : Int)) = (plc d ps n (k + 1)).map intLV := by
  rw [plc, getZ ps hk, List.map_set]
theorem fndI {ps : List Int} {n k : Nat} (hk : k < ps.length) : ((fnd ps n k).map boLV).set ps[k].toNat (boLV true) = (fnd ps n (k + 1)).map boLV := by
  rw [fnd, getZ ps hk, List.map_set]
def plcR (ps : List Int) : LV := match permB ps with | true => .tup [.hs 0 ps.length, .bool true] | false => .tup [.nil, .bool false]
def plcH (ps : List Int) : List Blk := match permB ps with | true => [.arr 3 1 ((inv ps).map intLV)] | false => []
theorem placesIn_h (ps : List Int) (hb : 8 * ps.length ≤ 281474976710656) : HSpec env.P 129 [rowSl ps] [] (plcR ps) (plcH ps) := by
  refine HSpec_of_code (E := env.x [] 0) env_ok.x (fn := Try.f129) Try.func129 rfl Try.call129 _ _ _ _ ?_
  ((repeat ((conv => whnf); first | refine brT ?_ | refine brF ?_)); conv => whnf)
  intro hp
  have hp' : ps.length ≤ Go.maxLen := by simpa using hp
  ((repeat ((conv => whnf); first | refine brT ?_ | refine brF ?_)); conv => whnf)
  refine ⟨ps.length, by simp, by simp, hb, hp', rfl, by decide, ?_⟩
  ((repeat ((conv => whnf); first | refine brT ?_ | refine brF ?_)); conv => whnf)
  intro _
  ((repeat ((conv => whnf); first | refine brT ?_ | refine brF ?_)); conv => whnf)
  refine ⟨ps.length, by simp, by simp, by show 1 * ps.length ≤ _; omega, hp', rfl, by decide, ?_⟩
  ((repeat ((conv => whnf); first | refine brT ?_ | refine brF ?_)); conv => whnf)
  intro _
  ((repeat ((conv => whnf); first | refine brT ?_ | refine brF ?_)); conv => whnf)
  refine loop_rule (α := Nat) (fun k => [(16, .int .i64 (k : Int))]) (fun k => [.arr 3 1 ((plc 0 ps ps.length k).map intLV), .arr 4 1 ((fnd ps ps.length k).map boLV)]) (fun k => ps.length - k) (fun k => k ≤ ps.length ∧ okTo ps ps.length k = true) 0 ⟨Nat.zero_le _, rfl⟩ ?_ ?_
  · refine ⟨?_, ⟨by rw [plc0]; rfl, by rw [fnd0]; rfl, trivial⟩, rfl, rfl⟩
    ((repeat ((conv => whnf); refine ⟨rfl, ?_⟩)); trivial)
  rintro k ⟨hk, hok⟩
  have hl1 : ps.length = ((plc 0 ps ps.length k).map intLV).length := by rw [List.length_map, plc_len]
  have hl2 : ps.length = ((fnd ps ps.length k).map boLV).length := by rw [List.length_map, fnd_len]
  ((repeat ((conv => whnf); first | refine brT ?_ | refine brF ?_)); conv => whnf)
  (refine ⟨fun h1 => ?_, fun h1 => ?_⟩ <;> rw [h1])
  · have hlt : k < ps.length := by rw [ltI_t] at h1; simp at h1; omega
    have e := step_i hlt hp'
    ((repeat ((conv => whnf); first | refine brT ?_ | refine brF ?_)); conv => whnf)
    refine ⟨k, intLV ps[k], rfl, by simp [hlt], rfl, ?_⟩
    ((repeat ((conv => whnf); first | refine brT ?_ | refine brF ?_)); conv => whnf)
    have no : ∀ (_ : ¬ (0 ≤ ps.getD k 0 ∧ ps.getD k 0 < ps.length ∧ ps.getD k 0 ∉ ps.take k)), permB ps = false := fun h => okTo_no hlt h
    rw [getZ ps hlt] at no
    (refine ⟨fun h2 => ?_, fun h2 => ?_⟩ <;> rw [h2])
    · have hn := no fun h => by rw [ltI_t] at h2; omega
      ((repeat ((conv => whnf); first | refine brT ?_ | refine brF ?_)); conv => whnf)
      unfold plcR plcH
      rw [hn]
      exact ⟨[.nil, .bool false], rfl, rfl, .inl ⟨⟨rfl, rfl, trivial⟩, trivial, rfl, rfl⟩⟩
    rw [ltI_f] at h2
    ((repeat ((conv => whnf); first | refine brT ?_ | refine brF ?_)); conv => whnf)
    intro _
    ((repeat ((conv => whnf); first | refine brT ?_ | refine brF ?_)); conv => whnf)
    (refine ⟨fun h3 => ?_, fun h3 => ?_⟩ <;> rw [h3])
    · have hn := no fun h => by rw [leI_t] at h3; simp at h3; omega
      ((repeat ((conv => whnf); first | refine brT ?_ | refine brF ?_)); conv => whnf)
      unfold plcR plcH
      rw [hn]
      exact ⟨[.nil, .bool false], rfl, rfl, .inl ⟨⟨rfl, rfl, trivial⟩, trivial, rfl, rfl⟩⟩
    rw [leI_f] at h3
    simp at h3
    have hN : ps[k].toNat < ps.length := by omega
    have hE : ps[k] = (ps[k].toNat : Int) := by omega
    ((repeat ((conv => whnf); first | refine brT ?_ | refine brF ?_)); conv => whnf)
    refine ⟨hl2, rfl, ps[k].toNat, hE, by rw [← hl2]; exact hN, ?_⟩
    ((repeat ((conv => whnf); first | refine brT ?_ | refine brF ?_)); conv => whnf)
    have hg := fnd_get hok hk ps[k].toNat hN
    rw [← hE] at hg
    refine ⟨hl2, by simp, boLV (decide (ps[k] ∈ ps.take k)), by simp only [getP]; rw [List.getElem?_map, hg]; rfl, rfl, ?_⟩
    ((repeat ((conv => whnf); first | refine brT ?_ | refine brF ?_)); conv => whnf)
    (refine ⟨fun h4 => ?_, fun h4 => ?_⟩ <;> rw [h4])
    · have hn := no fun h => h.2.2 (of_decide_eq_true h4)
      ((repeat ((conv => whnf); first | refine brT ?_ | refine brF ?_)); conv => whnf)
      unfold plcR plcH
      rw [hn]
      exact ⟨[.nil, .bool false], rfl, rfl, .inl ⟨⟨rfl, rfl, trivial⟩, trivial, rfl, rfl⟩⟩
    have hok' : okTo ps ps.length (k + 1) = true := okTo_step hok (by rw [getZ ps hlt]; exact h2) (by rw [getZ ps hlt]; exact h3) (by rw [getZ ps hlt]; exact of_decide_eq_false h4)
    ((repeat ((conv => whnf); first | refine brT ?_ | refine brF ?_)); conv => whnf)
    refine ⟨hl1, rfl, ps[k].toNat, hE, by rw [← hl1]; exact hN, ?_⟩
    ((repeat ((conv => whnf); first | refine brT ?_ | refine brF ?_)); conv => whnf)
    obtain ⟨v1, hv1⟩ : ∃ v, ((plc 0 ps ps.length k).map intLV)[ps[k].toNat]? = some (intLV v) := ⟨_, by rw [List.getElem?_map, List.getElem?_eq_getElem (by rw [plc_len]; exact hN)]; rfl⟩
    have hv2 : ((fnd ps ps.length k).map boLV)[ps[k].toNat]? = some (boLV (decide (ps[k] ∈ ps.take k))) := by rw [List.getElem?_map, hg]; rfl
    refine ⟨hl1, ps[k].toNat, [], intLV v1, rfl, by simp only [getP]; rw [hv1], rfl, rfl, rfl, (plc 0 ps ps.length (k + 1)).map intLV, by rw [hv1]; exact plcI hlt, ?_⟩
    ((repeat ((conv => whnf); first | refine brT ?_ | refine brF ?_)); conv => whnf)
    refine ⟨hl2, rfl, ps[k].toNat, hE, by rw [← hl2]; exact hN, ?_⟩
    ((repeat ((conv => whnf); first | refine brT ?_ | refine brF ?_)); conv => whnf)
    refine ⟨hl2, ps[k].toNat, [], boLV (decide (ps[k] ∈ ps.take k)), rfl, by simp only [getP]; rw [hv2], rfl, rfl, rfl, (fnd ps ps.length (k + 1)).map boLV, by rw [hv2]; exact fndI hlt, ?_⟩
    ((repeat ((conv => whnf); first | refine brT ?_ | refine brF ?_)); conv => whnf)
    refine round_end (k + 1) ⟨hlt, hok'⟩ (by omega) ⟨?_, ⟨rfl, rfl, trivial⟩, rfl, rfl⟩
    ((repeat ((conv => whnf); first | refine ⟨e, ?_⟩ | refine ⟨rfl, ?_⟩)); trivial)
  · have h3 : k = ps.length := by rw [ltI_f] at h1; simp at h1; omega
    subst h3
    have hp : permB ps = true := hok
    ((repeat ((conv => whnf); first | refine brT ?_ | refine brF ?_)); conv => whnf)
    unfold plcR plcH
    rw [hp]
    exact ⟨[.hs 0 ps.length, .bool true], rfl, rfl, .inr ⟨[.old 0], ⟨rfl, rfl, rfl, rfl, trivial⟩, ⟨rfl, by rw [plc_all hp]; rfl, trivial⟩, rfl⟩⟩
end Go.Proofs.Ytdhmnojnkgmmnaa

namespace Go.Proofs.Ytdhmnojnkgmmnaa
open Go.Lg Go.Pm
set_option maxHeartbeats 1600000
set_option maxRecDepth 10000
set_option linter.unusedVariables false
set_option linter.unusedSimpArgs false

theorem map_c (z : LV) : ∀ l : List Int, l.map (fun _ => z) = List.replicate l.length z
  | [] => rfl
  | x :: l => by rw [List.map_cons, map_c z l]; rfl
theorem l1Inverse_h (ps : List Int) (hb : 8 * ps.length ≤ 281474976710656) : HSpec env.P 128 [rowSl ps, .int .i64 (ps.length : Int)] [] (plcR ps) (plcH ps) := by
  refine HSpec_of_code (E := env.x [] 0) env_ok.x (fn := Try.f128) Try.func128 rfl Try.call128 _ _ _ _ ?_
  have hp' : ps.length ≤ Go.maxLen := by unfold Go.maxLen; omega
  ((repeat ((conv => whnf); first | refine brT ?_ | refine brF ?_)); conv => whnf)
  refine ⟨ps.length, by simp, by simp, hb, hp', rfl, by decide, ?_⟩
  ((repeat ((conv => whnf); first | refine brT ?_ | refine brF ?_)); conv => whnf)
  refine ⟨by simp, fun _ => ?_⟩
  ((repeat ((conv => whnf); first | refine brT ?_ | refine brF ?_)); conv => whnf)
  refine loop_rule (α := Nat) (fun k => [(14, .int .i64 (k : Int))]) (fun k => [.arr 3 1 (fillLV (fun _ : Int => intLV (-1)) (intLV 0) ps k)]) (fun k => ps.length - k) (fun k => k ≤ ps.length) 0 (Nat.zero_le _) ?_ ?_
  · refine ⟨?_, ⟨by simp [fillLV, intLV], trivial⟩, rfl, rfl⟩
    ((repeat ((conv => whnf); refine ⟨rfl, ?_⟩)); trivial)
  intro k hk
  ((repeat ((conv => whnf); first | refine brT ?_ | refine brF ?_)); conv => whnf)
  (refine ⟨fun h1 => ?_, fun h1 => ?_⟩ <;> rw [h1])
  · have hlt : k < ps.length := by rw [ltI_t] at h1; simp at h1; omega
    have e := step_i hlt hp'
    ((repeat ((conv => whnf); first | refine brT ?_ | refine brF ?_)); conv => whnf)
    refine ⟨(fill_len hk).symm, rfl, k, rfl, by rw [fill_len hk]; exact hlt, ?_⟩
    ((repeat ((conv => whnf); first | refine brT ?_ | refine brF ?_)); conv => whnf)
    refine ⟨(fill_len hk).symm, k, [], intLV 0, rfl, by simp [getP, fill_get hlt], rfl, rfl, rfl, fillLV (fun _ : Int => intLV (-1)) (intLV 0) ps (k + 1), by rw [fill_get hlt]; exact fill_set (lv := fun _ : Int => intLV (-1)) hlt, ?_⟩
    ((repeat ((conv => whnf); first | refine brT ?_ | refine brF ?_)); conv => whnf)
    refine round_end (k + 1) hlt (by omega) ⟨?_, ⟨rfl, trivial⟩, rfl, rfl⟩
    ((repeat ((conv => whnf); first | refine ⟨e, ?_⟩ | refine ⟨rfl, ?_⟩)); trivial)
  have hk' : k = ps.length := by rw [ltI_f] at h1; simp at h1; omega
  subst hk'
  have e0 : fillLV (fun _ : Int => intLV (-1)) (intLV 0) ps ps.length = (plc (-1) ps ps.length 0).map intLV := by rw [fill_all, plc0, map_c]
  rw [e0]
  ((repeat ((conv => whnf); first | refine brT ?_ | refine brF ?_)); conv => whnf)
  intro _
  ((repeat ((conv => whnf); first | refine brT ?_ | refine brF ?_)); conv => whnf)
  rw [show notB (eqI ((ps.map intLV).length : Int) (ps.length : Int)) = false by rw [List.length_map, eqI_refl]; simp [notB]]
  ((repeat ((conv => whnf); first | refine brT ?_ | refine brF ?_)); conv => whnf)
  intro _
  ((repeat ((conv => whnf); first | refine brT ?_ | refine brF ?_)); conv => whnf)
  refine loop_rule (α := Nat) (fun k => [(27, .int .i64 (k : Int))]) (fun k => [.arr 3 1 ((plc (-1) ps ps.length k).map intLV)]) (fun k => ps.length - k) (fun k => k ≤ ps.length ∧ okTo ps ps.length k = true) 0 ⟨Nat.zero_le _, rfl⟩ ?_ ?_
  · refine ⟨?_, ⟨rfl, trivial⟩, rfl, rfl⟩
    ((repeat ((conv => whnf); refine ⟨rfl, ?_⟩)); trivial)
  rintro k ⟨hk, hok⟩
  have hl1 : ps.length = ((plc (-1) ps ps.length k).map intLV).length := by rw [List.length_map, plc_len]
  ((repeat ((conv => whnf); first | refine brT ?_ | refine brF ?_)); conv => whnf)
  (refine ⟨fun h1 => ?_, fun h1 => ?_⟩ <;> rw [h1])
  · have hlt : k < ps.length := by rw [ltI_t] at h1; simp at h1; omega
    have e := step_i hlt hp'
    ((repeat ((conv => whnf); first | refine brT ?_ | refine brF ?_)); conv => whnf)
    refine ⟨k, intLV ps[k], rfl, by simp [hlt], rfl, ?_⟩
    ((repeat ((conv => whnf); first | refine brT ?_ | refine brF ?_)); conv => whnf)
    have no : ∀ (_ : ¬ (0 ≤ ps.getD k 0 ∧ ps.getD k 0 < ps.length ∧ ps.getD k 0 ∉ ps.take k)), permB ps = false := fun h => okTo_no hlt h
    rw [getZ ps hlt] at no
    (refine ⟨fun h2 => ?_, fun h2 => ?_⟩ <;> rw [h2])
    · have hn := no fun h => by rw [ltI_t] at h2; omega
      ((repeat ((conv => whnf); first | refine brT ?_ | refine brF ?_)); conv => whnf)
      unfold plcR plcH
      rw [hn]
      exact ⟨[.nil, .bool false], rfl, rfl, .inl ⟨⟨rfl, rfl, trivial⟩, trivial, rfl, rfl⟩⟩
    rw [ltI_f] at h2
    ((repeat ((conv => whnf); first | refine brT ?_ | refine brF ?_)); conv => whnf)
    (refine ⟨fun h3 => ?_, fun h3 => ?_⟩ <;> rw [h3])
    · have hn := no fun h => by rw [leI_t] at h3; omega
      ((repeat ((conv => whnf); first | refine brT ?_ | refine brF ?_)); conv => whnf)
      unfold plcR plcH
      rw [hn]
      exact ⟨[.nil, .bool false], rfl, rfl, .inl ⟨⟨rfl, rfl, trivial⟩, trivial, rfl, rfl⟩⟩
    rw [leI_f] at h3
    have hN : ps[k].toNat < ps.length := by omega
    have hE : ps[k] = (ps[k].toNat : Int) := by omega
    ((repeat ((conv => whnf); first | refine brT ?_ | refine brF ?_)); conv => whnf)
    refine ⟨hl1, rfl, ps[k].toNat, hE, by rw [← hl1]; exact hN, ?_⟩
    ((repeat ((conv => whnf); first | refine brT ?_ | refine brF ?_)); conv => whnf)
    obtain ⟨v, hv, hs⟩ := plc_sign hok hk hN
    rw [← hE] at hs
    have hv1 : ((plc (-1) ps ps.length k).map intLV)[ps[k].toNat]? = some (intLV v) := by rw [List.getElem?_map, hv]; rfl
    refine ⟨hl1, by simp, intLV v, by simp only [getP]; rw [hv1], rfl, ?_⟩
    ((repeat ((conv => whnf); first | refine brT ?_ | refine brF ?_)); conv => whnf)
    (refine ⟨fun h4 => ?_, fun h4 => ?_⟩ <;> rw [h4])
    · have hn := no fun h => h.2.2 (hs.1 (leI_t.1 h4))
      ((repeat ((conv => whnf); first | refine brT ?_ | refine brF ?_)); conv => whnf)
      unfold plcR plcH
      rw [hn]
      exact ⟨[.nil, .bool false], rfl, rfl, .inl ⟨⟨rfl, rfl, trivial⟩, trivial, rfl, rfl⟩⟩
    have hok' : okTo ps ps.length (k + 1) = true := okTo_step hok (by rw [getZ ps hlt]; exact h2) (by rw [getZ ps hlt]; exact h3) (by rw [getZ ps hlt]; intro hm; have := hs.2 hm; rw [leI_f] at h4; omega)
    ((repeat ((conv => whnf); first | refine brT ?_ | refine brF ?_)); conv => whnf)
    refine ⟨hl1, rfl, ps[k].toNat, hE, by rw [← hl1]; exact hN, ?_⟩
    ((repeat ((conv => whnf); first | refine brT ?_ | refine brF ?_)); conv => whnf)
    refine ⟨hl1, ps[k].toNat, [], intLV v, rfl, by simp only [getP]; rw [hv1], rfl, rfl, rfl, (plc (-1) ps ps.length (k + 1)).map intLV, by rw [hv1]; exact plcI hlt, ?_⟩
    ((repeat ((conv => whnf); first | refine brT ?_ | refine brF ?_)); conv => whnf)
    refine round_end (k + 1) ⟨hlt, hok'⟩ (by omega) ⟨?_, ⟨rfl, trivial⟩, rfl, rfl⟩
    ((repeat ((conv => whnf); first | refine ⟨e, ?_⟩ | refine ⟨rfl, ?_⟩)); trivial)
  · have h3 : k = ps.length := by rw [ltI_f] at h1; simp at h1; omega
    subst h3
    have hp : permB ps = true := hok
    ((repeat ((conv => whnf); first | refine brT ?_ | refine brF ?_)); conv => whnf)
    unfold plcR plcH
    rw [hp]
    exact ⟨[.hs 0 ps.length, .bool true], rfl, rfl, .inr ⟨[.old 0], ⟨rfl, rfl, rfl, rfl, trivial⟩, ⟨rfl, rfl, trivial⟩, rfl⟩⟩
theorem isPerm_impl (ps : List Int) (hb : 8 * ps.length ≤ 281474976710656) : FSpec env.P 181 [rowSl ps] (.bool (permB ps)) := by
  refine FSpec_of_code (E := env.x [129] 0) env_ok.x (fn := Try.f181) Try.func181 rfl Try.call181 _ _ ?_
  have h := placesIn_h ps hb
  unfold plcR plcH at h
  cases hp : permB ps <;> rw [hp] at h <;> ((repeat ((conv => whnf); first | refine brT ?_ | refine brF ?_)); conv => whnf)
  all_goals
    refine ⟨[], _, _, _, _, h, rfl, rfl, rfl, trivial, ?_⟩
    ((repeat ((conv => whnf); first | refine brT ?_ | refine brF ?_)); conv => whnf)
    exact fin rfl
theorem isPerm_spec (ps : List Int) (hb : 8 * ps.length ≤ 281474976710656) : FSpec env.P 215 [rowSl ps] (.bool (permB ps)) := by
  refine FSpec_of_code (E := env.x [128] 0) env_ok.x (fn := Try.f215) Try.func215 rfl Try.call215 _ _ ?_
  have h := l1Inverse_h ps hb
  unfold plcR plcH at h
  cases hp : permB ps <;> rw [hp] at h <;> ((repeat ((conv => whnf); first | refine brT ?_ | refine brF ?_)); conv => whnf)
  all_goals
    intro _
    rw [List.length_map]
    ((repeat ((conv => whnf); first | refine brT ?_ | refine brF ?_)); conv => whnf)
    refine ⟨[], _, _, _, _, h, rfl, rfl, rfl, trivial, ?_⟩
    ((repeat ((conv => whnf); first | refine brT ?_ | refine brF ?_)); conv => whnf)
    exact fin rfl
/-- The inverse; nothing of what is no permutation. -/
def invL (ps : List Int) : List Int := match permB ps with | true => inv ps | false => []
theorem inv_impl (ps : List Int) (hb : 8 * ps.length ≤ 281474976710656) : HSpec env.P 218 [rowSl ps] [] (.hs 0 ((invL ps).map intLV).length) [.arr 3 1 ((invL ps).map intLV)] := by
  refine HSpec_of_code (E := env.x [129] 0) env_ok.x (fn := Try.f218) Try.func218 rfl Try.call218 _ _ _ _ ?_
  have h := placesIn_h ps hb
  unfold plcR plcH at h
  unfold invL
  cases hp : permB ps <;> rw [hp] at h <;> ((repeat ((conv => whnf); first | refine brT ?_ | refine brF ?_)); conv => whnf)
  · refine ⟨[], _, _, _, _, h, rfl, rfl, rfl, trivial, ?_⟩
    ((repeat ((conv => whnf); first | refine brT ?_ | refine brF ?_)); conv => whnf)
    rw [show notB false = true by simp [notB]]
    ((repeat ((conv => whnf); first | refine brT ?_ | refine brF ?_)); conv => whnf)
    exact ⟨[.hs 0 0], rfl, rfl, .nl [.tmp 0 [] false 3 1] [.old 0] ⟨⟨rfl, rfl, trivial⟩, ⟨rfl, rfl, trivial⟩, rfl⟩⟩
  · refine ⟨[], _, _, _, _, h, rfl, rfl, rfl, trivial, ?_⟩
    ((repeat ((conv => whnf); first | refine brT ?_ | refine brF ?_)); conv => whnf)
    rw [show notB true = false by simp [notB]]
    ((repeat ((conv => whnf); first | refine brT ?_ | refine brF ?_)); conv => whnf)
    exact ⟨[.hs 0 ps.length], by simp [tupOf, inv_len], rfl, .inr ⟨[.old 0], ⟨rfl, rfl, trivial⟩, ⟨rfl, rfl, trivial⟩, rfl⟩⟩
theorem inv_spec (ps : List Int) (hb : 8 * ps.length ≤ 281474976710656) : HSpec env.P 210 [rowSl ps] [] (.hs 0 ((invL ps).map intLV).length) [.arr 3 1 ((invL ps).map intLV)] := by
  refine HSpec_of_code (E := env.x [128] 0) env_ok.x (fn := Try.f210) Try.func210 rfl Try.call210 _ _ _ _ ?_
  have h := l1Inverse_h ps hb
  unfold plcR plcH at h
  unfold invL
  cases hp : permB ps <;> rw [hp] at h <;> ((repeat ((conv => whnf); first | refine brT ?_ | refine brF ?_)); conv => whnf)
  all_goals
    intro _
    rw [show (ps.map intLV).length = ps.length by simp]
    ((repeat ((conv => whnf); first | refine brT ?_ | refine brF ?_)); conv => whnf)
    refine ⟨[], _, _, _, _, h, rfl, rfl, rfl, trivial, ?_⟩
    ((repeat ((conv => whnf); first | refine brT ?_ | refine brF ?_)); conv => whnf)
  · rw [show notB false = true by simp [notB]]
    ((repeat ((conv => whnf); first | refine brT ?_ | refine brF ?_)); conv => whnf)
    exact ⟨[.hs 0 0], rfl, rfl, .nl [.tmp 0 [] false 3 1] [.old 0] ⟨⟨rfl, rfl, trivial⟩, ⟨rfl, rfl, trivial⟩, rfl⟩⟩
  · rw [show notB true = false by simp [notB]]
    ((repeat ((conv => whnf); first | refine brT ?_ | refine brF ?_)); conv => whnf)
    exact ⟨[.hs 0 ps.length], by simp [tupOf, inv_len], rfl, .inr ⟨[.old 0], ⟨rfl, rfl, trivial⟩, ⟨rfl, rfl, trivial⟩, rfl⟩⟩
theorem ints_f {f : FuncId} {args : List LV} {xs : List Int} (h : HSpec env.P f args [] (.hs 0 (xs.map intLV).length) [.arr 3 1 (xs.map intLV)]) : FSpec env.P f args (rowOw xs) :=
  FSpec_of_HSpec h (by unfold rowOw; simp [exW])
end Go.Proofs.Ytdhmnojnkgmmnaa

namespace Go.Proofs.Ytdhmnojnkgmmnaa
open Go.Lg Go.Pm
set_option maxHeartbeats 1600000
set_option maxRecDepth 10000
set_option linter.unusedVariables false
set_option linter.unusedSimpArgs false

/-! ### Composition -/
theorem compose1_spec (q : List Int) (x : Int) (h0 : 0 ≤ x) (h1 : x.toNat < q.length) : FSpec env.P 242 [.int .i64 x, .ref (rowSl q)] (.int .i64 (q.getD x.toNat 0)) := by
  refine FSpec_of_code env_ok (fn := Try.f242) Try.func242 rfl Try.call242 _ _ ?_
  ((repeat ((conv => whnf); first | refine brT ?_ | refine brF ?_)); conv => whnf)
  refine ⟨x.toNat, intLV (q.getD x.toNat 0), by omega, by simp [h1], rfl, ?_⟩
  ((repeat ((conv => whnf); first | refine brT ?_ | refine brF ?_)); conv => whnf)
  exact ⟨rfl, rfl, List.nodup_nil⟩
theorem mapInt_h (F : Nat) (q ps : List Int) (g : Int → Int) (hF : ∀ x ∈ ps, FSpec env.P F [.int .i64 x, .ref (rowSl q)] (.int .i64 (g x))) (hb : 8 * ps.length ≤ 281474976710656) :
    HSpec env.P 241 [rowSl ps, .clos F [.hp 0 0 []]] [.box (rowSl q)] (.hs 1 ((ps.map g).map intLV).length) [.box (rowSl q), .arr 3 1 ((ps.map g).map intLV)] := by
  refine HSpec_of_code (E := env.x [] 1) env_ok.x (fn := Try.f241) Try.func241 rfl Try.call241 _ _ _ _ ?_
  ((repeat ((conv => whnf); first | refine brT ?_ | refine brF ?_)); conv => whnf)
  intro hp
  have hp' : ps.length ≤ Go.maxLen := by simpa using hp
  ((repeat ((conv => whnf); first | refine brT ?_ | refine brF ?_)); conv => whnf)
  refine ⟨ps.length, by simp, by simp, hb, hp', rfl, by decide, ?_⟩
  ((repeat ((conv => whnf); first | refine brT ?_ | refine brF ?_)); conv => whnf)
  intro _
  ((repeat ((conv => whnf); first | refine brT ?_ | refine brF ?_)); conv => whnf)
  refine loop_rule (α := Nat) (fun k => [(13, .int .i64 (k : Int))]) (fun k => [.box (rowSl q), .arr 3 1 (fillLV (fun x => intLV (g x)) (intLV 0) ps k)]) (fun k => ps.length - k) (fun k => k ≤ ps.length) 0 (Nat.zero_le _) ?_ ?_
  · refine ⟨?_, ⟨rfl, by simp [fillLV, intLV], trivial⟩, rfl, rfl⟩
    ((repeat ((conv => whnf); refine ⟨rfl, ?_⟩)); trivial)
  intro k hk
  ((repeat ((conv => whnf); first | refine brT ?_ | refine brF ?_)); conv => whnf)
  (refine ⟨fun h1 => ?_, fun h1 => ?_⟩ <;> rw [h1])
  · have hlt : k < ps.length := by rw [ltI_t] at h1; simp at h1; omega
    have e := step_i hlt hp'
    ((repeat ((conv => whnf); first | refine brT ?_ | refine brF ?_)); conv => whnf)
    refine ⟨k, intLV ps[k], rfl, by simp [hlt], rfl, ?_⟩
    ((repeat ((conv => whnf); first | refine brT ?_ | refine brF ?_)); conv => whnf)
    refine ⟨_, hF ps[k] (List.getElem_mem hlt), ?_⟩
    ((repeat ((conv => whnf); first | refine brT ?_ | refine brF ?_)); conv => whnf)
    refine ⟨(fill_len hk).symm, rfl, k, rfl, by rw [fill_len hk]; exact hlt, ?_⟩
    ((repeat ((conv => whnf); first | refine brT ?_ | refine brF ?_)); conv => whnf)
    refine ⟨(fill_len hk).symm, k, [], intLV 0, rfl, by simp [getP, fill_get hlt], rfl, rfl, rfl, fillLV (fun x => intLV (g x)) (intLV 0) ps (k + 1), by rw [fill_get hlt]; exact fill_set (lv := fun x => intLV (g x)) hlt, ?_⟩
    ((repeat ((conv => whnf); first | refine brT ?_ | refine brF ?_)); conv => whnf)
    refine round_end (k + 1) hlt (by omega) ⟨?_, ⟨rfl, rfl, trivial⟩, rfl, rfl⟩
    ((repeat ((conv => whnf); first | refine ⟨e, ?_⟩ | refine ⟨rfl, ?_⟩)); trivial)
  · have h4 : k = ps.length := by rw [ltI_f] at h1; simp at h1; omega
    subst h4
    ((repeat ((conv => whnf); first | refine brT ?_ | refine brF ?_)); conv => whnf)
    exact ⟨[.hs 1 ps.length], by simp [tupOf], rfl, .inl ⟨⟨rfl, trivial⟩, ⟨rfl, by rw [fill_all, List.map_map]; rfl, trivial⟩, rfl, rfl⟩⟩

/-- The composition of lists that are permutations of as many numbers; nothing of others. -/
def cmpB (ps qs : List Int) : Bool := eqI (ps.length : Int) (qs.length : Int) && (permB ps && permB qs)
def cmpL (ps qs : List Int) : List Int := match cmpB ps qs with | true => cmp ps qs | false => []
theorem cmpB_at {ps qs : List Int} (h : cmpB ps qs = true) : ps.length = qs.length ∧ permB ps = true ∧ permB qs = true := by
  unfold cmpB at h
  simp only [Bool.and_eq_true] at h
  exact ⟨by have := eqI_t.1 h.1; omega, h.2.1, h.2.2⟩
theorem cmp_ok {ps qs : List Int} (h : cmpB ps qs = true) : ∀ x ∈ ps, 0 ≤ x ∧ x.toNat < qs.length := fun x hx => by
  obtain ⟨h1, h2, h3⟩ := cmpB_at h
  have := (permB_spec.1 h2).1 x hx
  omega
theorem compose_impl (ps qs : List Int) (hb : 8 * ps.length ≤ 281474976710656) (hb2 : 8 * qs.length ≤ 281474976710656) : HSpec env.P 178 [rowSl ps, rowSl qs] [] (.hs 0 ((cmpL ps qs).map intLV).length) [.arr 3 1 ((cmpL ps qs).map intLV)] := by
  refine HSpec_of_code (E := env.x [241] 0) env_ok.x (fn := Try.f178) Try.func178 rfl Try.call178 _ _ _ _ ?_
  have hlen : ((ps.map intLV).length : Int) = (ps.length : Int) := by simp
  have hlen2 : ((qs.map intLV).length : Int) = (qs.length : Int) := by simp
  ((repeat ((conv => whnf); first | refine brT ?_ | refine brF ?_)); conv => whnf)
  intro _
  ((repeat ((conv => whnf); first | refine brT ?_ | refine brF ?_)); conv => whnf)
  intro _
  ((repeat ((conv => whnf); first | refine brT ?_ | refine brF ?_)); conv => whnf)
  rw [hlen, hlen2]
  have no : cmpB ps qs = false → cmpL ps qs = [] := fun h => by unfold cmpL; rw [h]
  (refine ⟨fun h1 => ?_, fun h1 => ?_⟩ <;> rw [h1])
  · rw [notB_t] at h1
    rw [no (by unfold cmpB; rw [h1]; rfl)]
    ((repeat ((conv => whnf); first | refine brT ?_ | refine brF ?_)); conv => whnf)
    exact ⟨[.hs 0 0], rfl, rfl, .nl [.tmp 0 [] false 3 1] [.old 1] ⟨⟨rfl, rfl, trivial⟩, ⟨rfl, rfl, trivial⟩, rfl⟩⟩
  rw [notB_f] at h1
  ((repeat ((conv => whnf); first | refine brT ?_ | refine brF ?_)); conv => whnf)
  refine ⟨_, isPerm_impl ps hb, ?_⟩
  ((repeat ((conv => whnf); first | refine brT ?_ | refine brF ?_)); conv => whnf)
  (refine ⟨fun h2 => ?_, fun h2 => ?_⟩ <;> rw [h2])
  · rw [notB_t] at h2
    rw [no (by unfold cmpB; rw [h1, h2]; rfl)]
    ((repeat ((conv => whnf); first | refine brT ?_ | refine brF ?_)); conv => whnf)
    exact ⟨[.hs 0 0], rfl, rfl, .nl [.tmp 0 [] false 3 1] [.old 1] ⟨⟨rfl, rfl, trivial⟩, ⟨rfl, rfl, trivial⟩, rfl⟩⟩
  rw [notB_f] at h2
  ((repeat ((conv => whnf); first | refine brT ?_ | refine brF ?_)); conv => whnf)
  refine ⟨_, isPerm_impl qs hb2, ?_⟩
  ((repeat ((conv => whnf); first | refine brT ?_ | refine brF ?_)); conv => whnf)
  (refine ⟨fun h3 => ?_, fun h3 => ?_⟩ <;> rw [h3])
  · rw [notB_t] at h3
    rw [no (by unfold cmpB; rw [h1, h2, h3]; rfl)]
    ((repeat ((conv => whnf); first | refine brT ?_ | refine brF ?_)); conv => whnf)
    exact ⟨[.hs 0 0], rfl, rfl, .nl [.tmp 0 [] false 3 1] [.old 1] ⟨⟨rfl, rfl, trivial⟩, ⟨rfl, rfl, trivial⟩, rfl⟩⟩
  rw [notB_f] at h3
  have hc : cmpB ps qs = true := by unfold cmpB; rw [h1, h2, h3]; rfl
  have e : cmpL ps qs = ps.map fun i => qs.getD i.toNat 0 := by unfold cmpL; rw [hc]; rfl
  rw [e]
  ((repeat ((conv => whnf); first | refine brT ?_ | refine brF ?_)); conv => whnf)
  refine ⟨[0], _, _, _, _, mapInt_h 242 qs ps (fun i => qs.getD i.toNat 0) (fun x hx => compose1_spec qs x (cmp_ok hc x hx).1 (cmp_ok hc x hx).2) hb, rfl, rfl, rfl, trivial, ?_⟩
  ((repeat ((conv => whnf); first | refine brT ?_ | refine brF ?_)); conv => whnf)
  exact ⟨[.hs 0 ((ps.map fun i => qs.getD i.toNat 0).map intLV).length], by simp [tupOf], rfl, .inr ⟨[.old 1], ⟨rfl, rfl, trivial⟩, ⟨rfl, rfl, trivial⟩, rfl⟩⟩
def cmpTo (ps qs : List Int) (k : Nat) : List LV := ((cmp ps qs).take k).map intLV
theorem l6Compose_h (ps qs : List Int) (h : ∀ x ∈ ps, 0 ≤ x ∧ x.toNat < qs.length) (hb : ps.length ≤ 1048576) : HSpec env.P 230 [rowSl ps, rowSl qs] [] (.hs 0 ((cmp ps qs).map intLV).length) [.arr 3 1 ((cmp ps qs).map intLV)] := by
  refine HSpec_of_code (E := env.x [] 0) env_ok.x (fn := Try.f230) Try.func230 rfl Try.call230 _ _ _ _ ?_
  have hp' : ps.length ≤ Go.maxLen := by unfold Go.maxLen; omega
  ((repeat ((conv => whnf); first | refine brT ?_ | refine brF ?_)); conv => whnf)
  intro _
  ((repeat ((conv => whnf); first | refine brT ?_ | refine brF ?_)); conv => whnf)
  refine loop_ruleR (α := Nat) [.old 0] (fun k => [(11, .int .i64 (k : Int)), (8, .undef), (5, .hs 0 (cmpTo ps qs k).length)]) (fun k => [.arr 3 1 (cmpTo ps qs k)]) (fun k => ps.length - k) (fun k => k ≤ ps.length) 0 (Nat.zero_le _) ?_ ?_
  · refine ⟨?_, ⟨rfl, rfl, trivial⟩, rfl⟩
    ((repeat ((conv => whnf); refine ⟨rfl, rfl, ?_⟩)); trivial)
  intro k hk
  ((repeat ((conv => whnf); first | refine brT ?_ | refine brF ?_)); conv => whnf)
  (refine ⟨fun h1 => ?_, fun h1 => ?_⟩ <;> rw [h1])
  · have hlt : k < ps.length := by rw [ltI_t] at h1; simp at h1; omega
    have e := step_i hlt hp'
    have hx := h ps[k] (List.getElem_mem hlt)
    have hcl : k < (cmp ps qs).length := by rw [cmp_len]; exact hlt
    have e2 : cmpTo ps qs k ++ [intLV (qs.getD ps[k].toNat 0)] = cmpTo ps qs (k + 1) := by
      unfold cmpTo
      rw [List.take_succ_eq_append_getElem hcl, List.map_append]
      simp [cmp]
    have hlen : (cmpTo ps qs k).length = k := by simp [cmpTo, cmp_len]; omega
    ((repeat ((conv => whnf); first | refine brT ?_ | refine brF ?_)); conv => whnf)
    refine ⟨k, intLV ps[k], rfl, by simp [hlt], rfl, ?_⟩
    ((repeat ((conv => whnf); first | refine brT ?_ | refine brF ?_)); conv => whnf)
    refine ⟨ps[k].toNat, intLV (qs.getD ps[k].toNat 0), by omega, by simp [hx.2], rfl, ?_⟩
    ((repeat ((conv => whnf); first | refine brT ?_ | refine brF ?_)); conv => whnf)
    refine ⟨rfl, rfl, ?_, ?_, ?_⟩
    · rw [List.length_append, hlen]; simp; unfold Go.maxLen; omega
    · rw [List.length_append, hlen]; simp; omega
    have e3 : LV.hs 0 (cmpTo ps qs k ++ [LV.int .i64 (qs.getD ps[k].toNat 0)]).length = LV.hs 0 (cmpTo ps qs (k + 1)).length := by rw [← e2]; rfl
    ((repeat ((conv => whnf); first | refine brT ?_ | refine brF ?_)); conv => whnf)
    refine round_endR [.old 2] (k + 1) hlt (by omega) ⟨?_, ⟨rfl, congrArg (Blk.arr 3 1) e2, trivial⟩, rfl⟩
    repeat ((conv => whnf); first | refine ⟨rfl, e, ?_⟩ | refine ⟨rfl, e3, ?_⟩ | refine ⟨rfl, rfl, ?_⟩)
    trivial
  · have h3 : k = ps.length := by rw [ltI_f] at h1; simp at h1; omega
    subst h3
    have e4 : cmpTo ps qs ps.length = (cmp ps qs).map intLV := by unfold cmpTo; rw [List.take_of_length_le (by rw [cmp_len]; exact Nat.le_refl _)]
    ((repeat ((conv => whnf); first | refine brT ?_ | refine brF ?_)); conv => whnf)
    rw [e4]
    exact ⟨[.hs 0 ((cmp ps qs).map intLV).length], rfl, rfl, .inl ⟨⟨rfl, trivial⟩, ⟨rfl, trivial⟩, rfl, rfl⟩⟩
end Go.Proofs.Ytdhmnojnkgmmnaa
namespace Go.Proofs.Ytdhmnojnkgmmnaa
open Go.Lg
set_option maxHeartbeats 1600000
set_option maxRecDepth 10000
set_option linter.unusedVariables false
set_option linter.unusedSimpArgs false

/-- How many integers the rows have. -/
def tot (rows : List (List Int)) : Nat := (rows.map List.length).sum
theorem tot_cons (r : List Int) (rs : List (List Int)) : tot (r :: rs) = r.length + tot rs := by simp [tot]
def markRows : Int → List (List Int) → List (List Int)
  | _, [] => []
  | k, r :: rs => marks k r.length :: markRows (k + r.length) rs
theorem markRows_len : ∀ (k : Int) (rows : List (List Int)), (markRows k rows).length = rows.length
  | _, [] => rfl
  | k, r :: rs => by simp [markRows, markRows_len _ rs]
theorem markRows_snoc : ∀ (k : Int) (rs : List (List Int)) (r : List Int), markRows k (rs ++ [r]) = markRows k rs ++ [marks (k + tot rs) r.length]
  | k, [], r => by simp [markRows, tot]
  | k, x :: xs, r => by
    simp only [List.cons_append, markRows, markRows_snoc _ xs r, tot_cons]
    congr 3; congr 1; omega
theorem tot_snoc (rs : List (List Int)) (r : List Int) : tot (rs ++ [r]) = tot rs + r.length := by simp [tot]

/-- The first i rows marked. -/
def markT (k : Int) (rows : List (List Int)) (i : Nat) : List (List Int) := markRows k (rows.take i) ++ rows.drop i
theorem markT_len {k : Int} {rows : List (List Int)} {i : Nat} (h : i ≤ rows.length) : (markT k rows i).length = rows.length := by simp [markT, markRows_len]; omega
theorem markT_zero (k : Int) (rows : List (List Int)) : markT k rows 0 = rows := by simp [markT, markRows]
theorem markT_all (k : Int) (rows : List (List Int)) : markT k rows rows.length = markRows k rows := by simp [markT]
theorem markT_get {k : Int} {rows : List (List Int)} {i : Nat} (h : i < rows.length) : (markT k rows i)[i]? = some rows[i] := by
  unfold markT
  have hm : (markRows k (rows.take i)).length = i := by rw [markRows_len, List.length_take]; omega
  rw [List.getElem?_append_right (by omega), hm]
  simp [h]
theorem markT_set {k : Int} {rows : List (List Int)} {i : Nat} (h : i < rows.length) : (markT k rows i).set i (marks (k + tot (rows.take i)) rows[i].length) = markT k rows (i + 1) := by
  unfold markT
  have e : rows.take (i + 1) = rows.take i ++ [rows[i]] := by rw [List.take_succ_eq_append_getElem h]
  have hm : (markRows k (rows.take i)).length = i := by rw [markRows_len, List.length_take]; omega
  rw [e, markRows_snoc, List.drop_eq_getElem_cons h, List.set_append_right _ _ (by omega), hm, Nat.sub_self, List.set_cons_zero, List.append_assoc]
  rfl
theorem tot_take_succ {rows : List (List Int)} {i : Nat} (h : i < rows.length) : tot (rows.take (i + 1)) = tot (rows.take i) + rows[i].length := by
  rw [List.take_succ_eq_append_getElem h, tot_snoc]
theorem tot_take_le : ∀ (rows : List (List Int)) (i : Nat), tot (rows.take i) ≤ tot rows
  | [], i => by simp [tot]
  | r :: rs, 0 => by simp [tot]
  | r :: rs, i + 1 => by simp only [List.take_succ_cons, tot_cons]; have := tot_take_le rs i; omega

theorem markIntSS_spec (rows : List (List Int)) (n : Nat) (hn : n = (rows.map rowOw).length) (k : Int) (h0 : 0 ≤ k) (h1 : k + tot rows ≤ 4611686018427387904) :
    HSpec env.P 58 [.hs 0 n, .int .i64 k] [.tree 38 1 (rows.map rowOw)] (.int .i64 (k + tot rows)) [.tree 38 1 ((markRows k rows).map rowOw)] := by
  subst hn
  refine HSpec_of_code (E := env.x [45] 1) env_ok.x (fn := Try.f58) Try.func58 rfl Try.call58 _ _ _ _ ?_
  ((repeat ((conv => whnf); first | refine brT ?_ | refine brF ?_)); conv => whnf)
  refine loop_rule (α := Nat) (fun i => [(5, .int .i64 (i : Int)), (1, .int .i64 (k + tot (rows.take i))), (0, .hs 0 ((markT k rows i).map rowOw).length)]) (fun i => [.tree 38 1 ((markT k rows i).map rowOw)]) (fun i => rows.length - i) (fun i => i ≤ rows.length) 0 (Nat.zero_le _) ?_ ?_
  · have e1 : LV.hs 0 (rows.map rowOw).length = LV.hs 0 ((markT k rows 0).map rowOw).length := by rw [markT_zero]
    have e2 : LV.int .i64 k = LV.int .i64 (k + tot (rows.take 0)) := by simp [tot]
    refine ⟨?_, ⟨congrArg (Blk.tree 38 1) (by rw [markT_zero]), trivial⟩, rfl, rfl⟩
    repeat ((conv => whnf); first | refine ⟨e1, ?_⟩ | refine ⟨e2, ?_⟩ | refine ⟨rfl, ?_⟩)
    trivial
  intro i hi
  have hl : ((markT k rows i).map rowOw).length = rows.length := by rw [List.length_map, markT_len hi]
  ((repeat ((conv => whnf); first | refine brT ?_ | refine brF ?_)); conv => whnf)
  refine ⟨rfl, fun hm => ?_⟩
  have hm' : rows.length ≤ Go.maxLen := by rw [← hl]; exact hm
  ((repeat ((conv => whnf); first | refine brT ?_ | refine brF ?_)); conv => whnf)
  (refine ⟨fun g1 => ?_, fun g1 => ?_⟩ <;> rw [g1])
  · have hlt : i < rows.length := by rw [ltI_t] at g1; omega
    have ht := tot_take_succ hlt
    have hle := tot_take_le rows (i + 1)
    have e := step_i hlt hm'
    have e5 : LV.hs 0 ((markT k rows i).map rowOw).length = LV.hs 0 ((markT k rows (i + 1)).map rowOw).length := by rw [hl, List.length_map, markT_len (by omega)]
    have hg : ((markT k rows i).map rowOw)[i]? = some (rowOw rows[i]) := by rw [List.getElem?_map, markT_get hlt]; rfl
    ((repeat ((conv => whnf); first | refine brT ?_ | refine brF ?_)); conv => whnf)
    refine ⟨rfl, rfl, i, rfl, by omega, ?_⟩
    ((repeat ((conv => whnf); first | refine brT ?_ | refine brF ?_)); conv => whnf)
    refine ⟨rfl, rowOw rows[i], rowOw rows[i], hg, rfl, ?_⟩
    ((repeat ((conv => whnf); first | refine brT ?_ | refine brF ?_)); conv => whnf)
    refine ⟨[1], _, _, _, _, markIntS_spec rows[i] _ rfl (k + tot (rows.take i)) (by omega) (by omega), rfl, rfl, rfl, trivial, ?_⟩
    ((repeat ((conv => whnf); first | refine brT ?_ | refine brF ?_)); conv => whnf)
    have e4 : LV.int .i64 (k + tot (rows.take i) + rows[i].length) = LV.int .i64 (k + tot (rows.take (i + 1))) := by congr 1; omega
    have e6 : ((markT k rows i).map rowOw).set i (rowOw (marks (k + tot (rows.take i)) rows[i].length)) = (markT k rows (i + 1)).map rowOw := by rw [← markT_set hlt, List.map_set]
    refine round_endR [.old 0] (i + 1) hlt (by omega) ⟨?_, ⟨by simp [marks_len], rfl, congrArg (Blk.tree 38 1) e6, trivial⟩, rfl⟩
    repeat ((conv => whnf); first | refine ⟨rfl, e, ?_⟩ | refine ⟨rfl, e4, ?_⟩ | refine ⟨rfl, e5, ?_⟩ | refine ⟨rfl, rfl, ?_⟩)
    trivial
  · have h3 : i = rows.length := by rw [ltI_f] at g1; omega
    subst h3
    ((repeat ((conv => whnf); first | refine brT ?_ | refine brF ?_)); conv => whnf)
    exact ⟨[.int .i64 (k + tot (rows.take rows.length))], by simp [tupOf], rfl, .inl ⟨⟨rfl, trivial⟩, ⟨congrArg (Blk.tree 38 1) (by rw [markT_all]), trivial⟩, rfl, rfl⟩⟩

theorem markRows_get : ∀ (k : Int) (rows : List (List Int)) (i : Nat) (h : i < rows.length), (markRows k rows)[i]? = some (marks (k + tot (rows.take i)) rows[i].length)
  | k, r :: rs, 0, _ => by simp [markRows, tot]
  | k, r :: rs, i + 1, h => by
    simp only [markRows, List.getElem?_cons_succ, List.take_succ_cons, tot_cons, List.getElem_cons_succ]
    rw [markRows_get (k + r.length) rs i (by simpa using h)]
    congr 2; omega

theorem heldIntSS_spec (rows : List (List Int)) (k : Int) (h0 : 0 ≤ k) (h1 : k + tot rows ≤ 4611686018427387904) :
    FSpec env.P 59 [.sl ((markRows k rows).map rowSl), .int .i64 k] (.int .i64 (k + tot rows)) := by
  refine FSpec_of_code env_ok (fn := Try.f59) Try.func59 rfl Try.call59 _ _ ?_
  have hl : ((markRows k rows).map rowSl).length = rows.length := by simp [markRows_len]
  ((repeat ((conv => whnf); first | refine brT ?_ | refine brF ?_)); conv => whnf)
  refine loop_rule (α := Nat) (fun i => [(5, .int .i64 (i : Int)), (1, .int .i64 (k + tot (rows.take i)))]) (fun i => []) (fun i => rows.length - i) (fun i => i ≤ rows.length) 0 (Nat.zero_le _) ?_ ?_
  · have e2 : LV.int .i64 k = LV.int .i64 (k + tot (rows.take 0)) := by simp [tot]
    refine ⟨?_, trivial, rfl, rfl⟩
    ((repeat ((conv => whnf); first | refine ⟨e2, ?_⟩ | refine ⟨rfl, ?_⟩)); trivial)
  intro i hi
  ((repeat ((conv => whnf); first | refine brT ?_ | refine brF ?_)); conv => whnf)
  intro hm
  rw [hl] at hm
  ((repeat ((conv => whnf); first | refine brT ?_ | refine brF ?_)); conv => whnf)
  (refine ⟨fun g1 => ?_, fun g1 => ?_⟩ <;> rw [g1])
  · have hlt : i < rows.length := by rw [ltI_t] at g1; omega
    have ht := tot_take_succ hlt
    have hle := tot_take_le rows (i + 1)
    have e := step_i hlt hm
    have e4 : LV.int .i64 (k + tot (rows.take i) + rows[i].length) = LV.int .i64 (k + tot (rows.take (i + 1))) := by congr 1; omega
    have hg : ((markRows k rows).map rowSl)[i]? = some (rowSl (marks (k + tot (rows.take i)) rows[i].length)) := by
      rw [List.getElem?_map, markRows_get k rows i hlt]; rfl
    ((repeat ((conv => whnf); first | refine brT ?_ | refine brF ?_)); conv => whnf)
    refine ⟨i, _, rfl, hg, rfl, ?_⟩
    ((repeat ((conv => whnf); first | refine brT ?_ | refine brF ?_)); conv => whnf)
    refine ⟨_, heldIntS_spec (k + tot (rows.take i)) rows[i].length (by omega) (by omega), ?_⟩
    ((repeat ((conv => whnf); first | refine brT ?_ | refine brF ?_)); conv => whnf)
    rw [show ltI (k + (tot (rows.take i) : Int) + (rows[i].length : Int)) 0 = false by rw [ltI_f]; omega]
    ((repeat ((conv => whnf); first | refine brT ?_ | refine brF ?_)); conv => whnf)
    refine round_end (i + 1) hlt (by omega) ⟨?_, trivial, rfl, rfl⟩
    repeat ((conv => whnf); first | refine ⟨e, ?_⟩ | refine ⟨e4, ?_⟩ | refine ⟨rfl, ?_⟩)
    trivial
  · have h3 : i = rows.length := by rw [ltI_f] at g1; omega
    subst h3
    ((repeat ((conv => whnf); first | refine brT ?_ | refine brF ?_)); conv => whnf)
    exact ⟨rfl, by simp, List.nodup_nil⟩

end Go.Proofs.Ytdhmnojnkgmmnaa
namespace Go.Proofs.Ytdhmnojnkgmmnaa
open Go.Lg
set_option maxHeartbeats 1600000
set_option maxRecDepth 10000
set_option linter.unusedVariables false
set_option linter.unusedSimpArgs false

def rowFrom (size : Int) : Int → List Int → Bool
  | _, [] => true
  | last, b :: bs => match leI b last with | true => false | false => match leI size b with | true => false | false => rowFrom size b bs
def rowsOk (n : Int) (rows : List (List Int)) : Bool := rows.all fun r => rowFrom n (-1) r
def relOk (n : Int) (rows : List (List Int)) : Bool := leI 0 n && leI n 40 && eqI rows.length n && rowsOk n rows
end Go.Proofs.Ytdhmnojnkgmmnaa
namespace Go.Proofs.Ytdhmnojnkgmmnaa
open Go.Lg
set_option maxHeartbeats 1600000
set_option maxRecDepth 10000
set_option linter.unusedVariables false
set_option linter.unusedSimpArgs false

structure RowsLen (rows : List (List Int)) : Prop where
  n : rows.length ≤ Go.maxLen
  each : ∀ r ∈ rows, r.length ≤ Go.maxLen

theorem szN_ok {l : Int} {n : Nat} (h0 : 0 ≤ l) (h1 : l ≤ 1048576) (hn : n ≤ Go.maxLen) (h : 0 ≤ szN l n) : szN l n = l - n ∧ (n : Int) ≤ l := by
  unfold szN at h ⊢
  rw [wrap_sub h0 h1 hn] at h ⊢
  split at h
  · omega
  · exact ⟨rfl, by omega⟩
theorem szRs_ok : ∀ (rows : List (List Int)) (l : Int), 0 ≤ l → l ≤ 1048576 → (∀ r ∈ rows, r.length ≤ Go.maxLen) → 0 ≤ szRs l rows → szRs l rows = l - tot rows ∧ (tot rows : Int) ≤ l
  | [], l, h0, _, _, _ => by simp [szRs, tot]; exact h0
  | r :: rs, l, h0, h1, hn, h => by
    simp only [szRs] at h ⊢
    split at h
    · omega
    · rename_i hh
      rw [ltI_f] at hh
      obtain ⟨a1, a2⟩ := szN_ok h0 h1 (hn r (by simp)) hh
      obtain ⟨b1, b2⟩ := szRs_ok rs _ hh (by omega) (fun q hq => hn q (by simp [hq])) h
      rw [tot_cons]
      exact ⟨by rw [b1, a1]; omega, by omega⟩
theorem tot_mem : ∀ {rows : List (List Int)} {r : List Int}, r ∈ rows → r.length ≤ tot rows
  | x :: xs, r, h => by
    rw [tot_cons]
    rcases List.mem_cons.1 h with rfl | h
    · omega
    · have := tot_mem h; omega
theorem szRows_ok {rows : List (List Int)} {l : Int} (h0 : 0 ≤ l) (h1 : l ≤ 1048576) (hr : RowsLen rows) (h : 0 ≤ szRows l rows) : RowsOK rows ∧ tot rows ≤ 1048576 ∧ rows.length ≤ 1048576 ∧ szRows l rows ≤ l ∧ ltI (szRows l rows) 0 = false := by
  unfold szRows at h ⊢
  split at h
  · omega
  · rename_i hh
    rw [ltI_f] at hh
    obtain ⟨a1, a2⟩ := szN_ok h0 h1 hr.n hh
    obtain ⟨b1, b2⟩ := szRs_ok rows _ hh (by omega) hr.each h
    have hb : RowsOK rows := ⟨by omega, fun r hm => by have := tot_mem hm; omega⟩
    refine ⟨hb, by omega, by omega, by rw [b1]; omega, by rw [ltI_f]; exact h⟩

abbrev shInts : Sh := .sl (.int .i64)
abbrev shRel : Sh := .st [.int .i64, .sl (.sl (.int .i64))]
theorem ints_of : ∀ (xs : List LV), (∀ x ∈ xs, hasSh (.int .i64) x) → ∃ ns : List Int, xs = ns.map intLV
  | [], _ => ⟨[], rfl⟩
  | x :: xs, h => by
    obtain ⟨ns, rfl⟩ := ints_of xs fun y hy => h y (by simp [hy])
    have h0 := h x (by simp)
    simp only [hasSh] at h0
    obtain ⟨n, rfl⟩ := h0
    exact ⟨n :: ns, rfl⟩
theorem row_of_sh {x : LV} (h : hasSh shInts x) : ∃ r : List Int, x = rowSl r ∧ r.length ≤ Go.maxLen := by
  simp only [hasSh] at h
  obtain ⟨xs, rfl, hl, h⟩ := h
  obtain ⟨ns, rfl⟩ := ints_of xs fun x hx => by simp only [hasSh]; exact h x hx
  exact ⟨ns, rfl, by simpa using hl⟩
theorem rows_of : ∀ (xs : List LV), (∀ x ∈ xs, hasSh shInts x) → ∃ rows : List (List Int), xs = rows.map rowSl ∧ ∀ r ∈ rows, r.length ≤ Go.maxLen
  | [], _ => ⟨[], rfl, by simp⟩
  | x :: xs, h => by
    obtain ⟨rows, rfl, hl⟩ := rows_of xs fun y hy => h y (by simp [hy])
    obtain ⟨r, rfl, hr⟩ := row_of_sh (h x (by simp))
    exact ⟨r :: rows, rfl, List.forall_mem_cons.2 ⟨hr, hl⟩⟩
theorem rel_of_sh {x : LV} (h : hasSh shRel x) : ∃ (n : Int) (rows : List (List Int)), x = relLV n rows ∧ RowsLen rows := by
  simp only [hasSh] at h
  obtain ⟨xs, rfl, h⟩ := h
  match xs, h with
  | [a, b], h =>
    simp only [hasShs, hasSh] at h
    obtain ⟨⟨n, rfl⟩, ⟨ys, rfl, hl, hy⟩, _⟩ := h
    obtain ⟨rows, rfl, hr⟩ := rows_of ys fun y hy' => by simp only [hasSh]; exact hy y hy'
    exact ⟨n, rows, rfl, by simpa using hl, hr⟩
  | [], h => simp [hasShs] at h
  | [_], h => simp [hasShs] at h
  | _ :: _ :: _ :: _, h => simp [hasShs] at h

theorem eqB_refl (b : Bool) : eqB b b = true := by unfold eqB; simp

end Go.Proofs.Ytdhmnojnkgmmnaa
namespace Go.Proofs.Ytdhmnojnkgmmnaa
open Go.Lg Go.Pm
set_option maxHeartbeats 3200000
set_option maxRecDepth 10000
set_option linter.unusedVariables false
set_option linter.unusedSimpArgs false

theorem invL_len (ps : List Int) : (invL ps).length ≤ ps.length := by unfold invL; cases permB ps <;> simp [inv_len]
theorem cmpL_len (ps qs : List Int) : (cmpL ps qs).length ≤ ps.length := by unfold cmpL; cases cmpB ps qs <;> simp [cmp_len]
end Go.Proofs.Ytdhmnojnkgmmnaa
namespace Go.Proofs.Ytdhmnojnkgmmnaa
open Go.Lg
set_option maxHeartbeats 1600000
set_option maxRecDepth 10000
set_option linter.unusedVariables false
set_option linter.unusedSimpArgs false

/-! ### Bits -/
theorem u64_wrap {n : Nat} (h : n < 2 ^ 64) : IntKind.u64.wrap (n : Int) = n := by
  unfold IntKind.wrap
  simp [IntKind.signed, IntKind.bits]
  omega
theorem ofInt_nat (n : Nat) : BitVec.ofInt 64 (n : Int) = BitVec.ofNat 64 n := by simp
theorem orI_nat {a b : Nat} (ha : a < 2 ^ 64) (hb : b < 2 ^ 64) : Go.Lg.orI .u64 (a : Int) (b : Int) = ((a ||| b : Nat) : Int) := by
  unfold Go.Lg.orI
  show IntKind.u64.wrap ((BitVec.ofInt 64 (a : Int) ||| BitVec.ofInt 64 (b : Int)).toNat) = _
  rw [ofInt_nat, ofInt_nat, BitVec.toNat_or, BitVec.toNat_ofNat, BitVec.toNat_ofNat, Nat.mod_eq_of_lt ha, Nat.mod_eq_of_lt hb]
  exact u64_wrap (Nat.or_lt_two_pow ha hb)
theorem andI_nat {a b : Nat} (ha : a < 2 ^ 64) (hb : b < 2 ^ 64) : andI .u64 (a : Int) (b : Int) = ((a &&& b : Nat) : Int) := by
  unfold andI
  show IntKind.u64.wrap ((BitVec.ofInt 64 (a : Int) &&& BitVec.ofInt 64 (b : Int)).toNat) = _
  rw [ofInt_nat, ofInt_nat, BitVec.toNat_and, BitVec.toNat_ofNat, BitVec.toNat_ofNat, Nat.mod_eq_of_lt ha, Nat.mod_eq_of_lt hb]
  exact u64_wrap (Nat.and_lt_two_pow a hb)
/-- a but not b, in 64 bits -/
def lessN (a b : Nat) : Nat := (BitVec.ofNat 64 a &&& ~~~BitVec.ofNat 64 b).toNat
theorem lessN_lt (a b : Nat) : lessN a b < 2 ^ 64 := (BitVec.ofNat 64 a &&& ~~~BitVec.ofNat 64 b).isLt
theorem andNotI_nat (a b : Nat) : andNotI .u64 (a : Int) (b : Int) = (lessN a b : Int) := by
  unfold andNotI
  show IntKind.u64.wrap ((BitVec.ofInt 64 (a : Int) &&& ~~~BitVec.ofInt 64 (b : Int)).toNat) = _
  rw [ofInt_nat, ofInt_nat]
  exact u64_wrap (lessN_lt a b)
theorem lessN_bit {a b i : Nat} (ha : a < 2 ^ 64) (hi : i < 64) : (lessN a b).testBit i = (a.testBit i && !b.testBit i) := by
  unfold lessN
  rw [BitVec.testBit_toNat, BitVec.getLsbD_and, BitVec.getLsbD_not, BitVec.getLsbD_ofNat, BitVec.getLsbD_ofNat]
  simp [hi]
theorem shlI_one {b : Int} (h0 : 0 ≤ b) (h1 : b < 64) : shlI .u64 1 b = ((2 ^ b.toNat : Nat) : Int) := by
  unfold shlI
  have hm : min b.toNat IntKind.u64.bits = b.toNat := by
    have : b.toNat < 64 := by omega
    simp [IntKind.bits]; omega
  rw [hm, Int.one_mul]
  have hlt : 2 ^ b.toNat < 2 ^ 64 := Nat.pow_lt_pow_right (by omega) (by omega)
  have := u64_wrap hlt
  rw [← this]
  simp

def uLV (s : Nat) : LV := .int .u64 (s : Int)
/-- The set of a row. -/
def setFrom : Nat → List Int → Nat
  | s, [] => s
  | s, b :: bs => setFrom (s ||| 2 ^ b.toNat) bs
def setN (row : List Int) : Nat := setFrom 0 row
def inSize (row : List Int) : Prop := ∀ b ∈ row, 0 ≤ b ∧ b < 40
theorem two_lt {b : Nat} (h : b < 64) : 2 ^ b < 2 ^ 64 := Nat.pow_lt_pow_right (by omega) h
theorem setFrom_lt : ∀ (row : List Int) (s : Nat), s < 2 ^ 64 → inSize row → setFrom s row < 2 ^ 64
  | [], s, h, _ => h
  | b :: bs, s, h, hr => by
    have := hr b (by simp)
    exact setFrom_lt bs _ (Nat.or_lt_two_pow h (two_lt (by omega))) fun x hx => hr x (by simp [hx])
theorem setFrom_bit : ∀ (row : List Int) (s i : Nat), inSize row → (setFrom s row).testBit i = (s.testBit i || decide ((i : Int) ∈ row))
  | [], s, i, _ => by simp [setFrom]
  | b :: bs, s, i, hr => by
    have hb := hr b (by simp)
    simp only [setFrom]
    rw [setFrom_bit bs _ i fun x hx => hr x (by simp [hx]), Nat.testBit_or, Nat.testBit_two_pow]
    have : (b.toNat = i) ↔ ((i : Int) = b) := by omega
    simp only [List.mem_cons, this, Bool.or_assoc, Bool.decide_or]
theorem setN_bit {row : List Int} (h : inSize row) (i : Nat) : (setN row).testBit i = decide ((i : Int) ∈ row) := by unfold setN; rw [setFrom_bit row 0 i h]; simp
theorem setN_lt {row : List Int} (h : inSize row) : setN row < 2 ^ 64 := setFrom_lt row 0 (by decide) h

/-- (numberSet).has -/
def hasN (s : Nat) (b : Int) : Bool := s.testBit b.toNat
theorem has_bits {s : Nat} {b : Int} (hs : s < 2 ^ 64) (h0 : 0 ≤ b) (h1 : b < 64) : notB (eqI (andI .u64 (s : Int) (shlI .u64 1 b)) 0) = hasN s b := by
  rw [shlI_one h0 h1, andI_nat hs (two_lt (by omega))]
  unfold hasN notB eqI
  have hx : s &&& 2 ^ b.toNat = if s.testBit b.toNat then 2 ^ b.toNat else 0 := by
    apply Nat.eq_of_testBit_eq
    intro i
    rw [Nat.testBit_and, Nat.testBit_two_pow]
    by_cases hi : b.toNat = i
    · subst hi
      cases h : s.testBit b.toNat <;> simp [Nat.testBit_two_pow]
    · cases h : s.testBit b.toNat <;> simp [hi, Nat.testBit_two_pow]
  rw [hx]
  have hp : 0 < 2 ^ b.toNat := Nat.two_pow_pos _
  cases s.testBit b.toNat
  · simp
  · simp only [if_true]
    rw [Bool.not_eq_true', beq_eq_false_iff_ne]
    omega
theorem has_spec (s : Nat) (b : Int) (hs : s < 2 ^ 64) (h0 : 0 ≤ b) (h1 : b < 64) : FSpec env.P 166 [uLV s, .int .i64 b] (.bool (hasN s b)) := by
  refine FSpec_of_code env_ok (fn := Try.f166) Try.func166 rfl Try.call166 _ _ ?_
  ((repeat ((conv => whnf); first | refine brT ?_ | refine brF ?_)); conv => whnf)
  refine ⟨h0, ?_⟩
  ((repeat ((conv => whnf); first | refine brT ?_ | refine brF ?_)); conv => whnf)
  refine fin ?_
  exact has_bits hs h0 h1

/-- (numberSet).add of a variable -/
theorem add_box (s : Nat) (b : Int) (hs : s < 2 ^ 64) (h0 : 0 ≤ b) (h1 : b < 64) : HSpec env.P 124 [.hp 0 0 [], .int .i64 b] [.box (uLV s)] (.tup []) [.box (uLV (s ||| 2 ^ b.toNat))] := by
  refine HSpec_of_code (E := env.x [] 1) env_ok.x (fn := Try.f124) Try.func124 rfl Try.call124 _ _ _ _ ?_
  ((repeat ((conv => whnf); first | refine brT ?_ | refine brF ?_)); conv => whnf)
  refine ⟨true, by kernel_rfl, ?_⟩
  ((repeat ((conv => whnf); first | refine brT ?_ | refine brF ?_)); conv => whnf)
  refine ⟨h0, ?_⟩
  ((repeat ((conv => whnf); first | refine brT ?_ | refine brF ?_)); conv => whnf)
  have e : LV.int .u64 (Go.Lg.orI .u64 (s : Int) (shlI .u64 1 b)) = uLV (s ||| 2 ^ b.toNat) := by rw [shlI_one h0 h1, orI_nat hs (two_lt (by omega))]; rfl
  exact ⟨[], rfl, rfl, .inl ⟨trivial, ⟨congrArg Blk.box e, trivial⟩, rfl, rfl⟩⟩

theorem setOf_spec (row : List Int) (hr : inSize row) (hm : row.length ≤ Go.maxLen) : FSpec env.P 164 [rowSl row] (uLV (setN row)) := by
  refine FSpec_of_code (E := env.x [124] 0) env_ok.x (fn := Try.f164) Try.func164 rfl Try.call164 _ _ ?_
  ((repeat ((conv => whnf); first | refine brT ?_ | refine brF ?_)); conv => whnf)
  intro _
  rw [List.length_map]
  ((repeat ((conv => whnf); first | refine brT ?_ | refine brF ?_)); conv => whnf)
  refine loop_rule (α := Nat) (fun k => [(8, .int .i64 (k : Int))]) (fun k => [.box (uLV (setFrom 0 (row.take k)))]) (fun k => row.length - k) (fun k => k ≤ row.length) 0 (Nat.zero_le _) ?_ ?_
  · refine ⟨?_, ⟨rfl, trivial⟩, rfl, rfl⟩
    ((repeat ((conv => whnf); refine ⟨rfl, ?_⟩)); trivial)
  rintro k hk
  ((repeat ((conv => whnf); first | refine brT ?_ | refine brF ?_)); conv => whnf)
  (refine ⟨fun h1 => ?_, fun h1 => ?_⟩ <;> rw [h1])
  · have hlt : k < row.length := by rw [ltI_t] at h1; omega
    have hb := hr row[k] (List.getElem_mem hlt)
    have e := step_i hlt hm
    have hs : setFrom 0 (row.take k) < 2 ^ 64 := setFrom_lt _ _ (by decide) fun x hx => hr x (List.mem_of_mem_take hx)
    have es : setFrom 0 (row.take (k + 1)) = setFrom 0 (row.take k) ||| 2 ^ row[k].toNat := by
      rw [List.take_succ_eq_append_getElem hlt]
      generalize row.take k = l
      generalize (0 : Nat) = z
      induction l generalizing z with
      | nil => rfl
      | cons y ys ih => simp only [List.cons_append, setFrom]; exact ih _
    ((repeat ((conv => whnf); first | refine brT ?_ | refine brF ?_)); conv => whnf)
    refine ⟨k, intLV row[k], rfl, by simp [hlt], rfl, ?_⟩
    ((repeat ((conv => whnf); first | refine brT ?_ | refine brF ?_)); conv => whnf)
    refine ⟨[0], _, _, _, _, add_box _ row[k] hs hb.1 (by omega), rfl, rfl, rfl, trivial, ?_⟩
    ((repeat ((conv => whnf); first | refine brT ?_ | refine brF ?_)); conv => whnf)
    refine round_end (k + 1) hlt (by omega) ⟨?_, ⟨congrArg (fun s => Blk.box (uLV s)) es.symm, trivial⟩, rfl, rfl⟩
    ((repeat ((conv => whnf); first | refine ⟨e, ?_⟩ | refine ⟨rfl, ?_⟩)); trivial)
  · have h3 : k = row.length := by rw [ltI_f] at h1; omega
    subst h3
    ((repeat ((conv => whnf); first | refine brT ?_ | refine brF ?_)); conv => whnf)
    exact ⟨rfl, by rw [List.take_length]; rfl, List.nodup_nil⟩
end Go.Proofs.Ytdhmnojnkgmmnaa

namespace Go.Proofs.Ytdhmnojnkgmmnaa
open Go.Lg
set_option maxHeartbeats 1600000
set_option maxRecDepth 10000
set_option linter.unusedVariables false
set_option linter.unusedSimpArgs false

theorem rowFrom_cons {n last b : Int} {bs : List Int} (h : rowFrom n last (b :: bs) = true) : last < b ∧ b < n ∧ rowFrom n b bs = true := by
  simp only [rowFrom] at h
  split at h
  · cases h
  · rename_i h1
    split at h
    · cases h
    · rename_i h2
      rw [leI_f] at h1 h2
      exact ⟨h1, h2, h⟩
theorem rowFrom_mem : ∀ {r : List Int} {n last : Int}, rowFrom n last r = true → ∀ b ∈ r, last < b ∧ b < n
  | [], _, _, _, b, hb => by simp at hb
  | x :: xs, n, last, h, b, hb => by
    obtain ⟨h1, h2, h3⟩ := rowFrom_cons h
    rcases List.mem_cons.1 hb with rfl | hb
    · exact ⟨h1, h2⟩
    · have := rowFrom_mem h3 b hb; omega
theorem rowFrom_len : ∀ {r : List Int} {n last : Int}, rowFrom n last r = true → (r.length : Int) + last ≤ n - 1 ∨ r = []
  | [], _, _, _ => .inr rfl
  | x :: xs, n, last, h => by
    obtain ⟨h1, h2, h3⟩ := rowFrom_cons h
    left
    rcases rowFrom_len h3 with h4 | rfl
    · simp only [List.length_cons]; omega
    · simp; omega
structure RelIn (n : Int) (rows : List (List Int)) : Prop where
  lo : 0 ≤ n
  hi : n ≤ 40
  len : (rows.length : Int) = n
  row : ∀ r ∈ rows, rowFrom n (-1) r = true
theorem relIn_of {n : Int} {rows : List (List Int)} (h : relOk n rows = true) : RelIn n rows := by
  unfold relOk rowsOk at h
  simp only [Bool.and_eq_true, leI_t, eqI_t, List.all_eq_true] at h
  exact ⟨h.1.1.1, h.1.1.2, h.1.2, h.2⟩
theorem relOk_of {n : Int} {rows : List (List Int)} (h : RelIn n rows) : relOk n rows = true := by
  unfold relOk rowsOk
  simp only [Bool.and_eq_true, leI_t, eqI_t, List.all_eq_true]
  exact ⟨⟨⟨h.lo, h.hi⟩, h.len⟩, h.row⟩
theorem RelIn.mem {n : Int} {rows : List (List Int)} (h : RelIn n rows) {r : List Int} (hr : r ∈ rows) {b : Int} (hb : b ∈ r) : 0 ≤ b ∧ b < n ∧ b < 40 := by
  have := rowFrom_mem (h.row r hr) b hb
  have := h.hi
  omega
theorem RelIn.rlen {n : Int} {rows : List (List Int)} (h : RelIn n rows) {r : List Int} (hr : r ∈ rows) : r.length ≤ 40 := by
  have h1 := h.hi
  rcases rowFrom_len (h.row r hr) with h2 | rfl
  · omega
  · simp

/-! ### Pairs -/
structure Pr where
  a : Int
  b : Int
def Pr.lv (p : Pr) : LV := .st [.int .i64 p.a, .int .i64 p.b]
def prRow (a : Nat) (r : List Int) : List Pr := r.map fun b => ⟨a, b⟩
def prFrom : Nat → List (List Int) → List Pr
  | _, [] => []
  | a, r :: rs => prRow a r ++ prFrom (a + 1) rs
theorem prFrom_snoc : ∀ (a : Nat) (rs : List (List Int)) (r : List Int), prFrom a (rs ++ [r]) = prFrom a rs ++ prRow (a + rs.length) r
  | a, [], r => by simp [prFrom]
  | a, x :: xs, r => by
    simp only [List.cons_append, prFrom, prFrom_snoc _ xs r, List.append_assoc, List.length_cons]
    congr 3; omega
theorem prFrom_len : ∀ (a : Nat) (rs : List (List Int)), (prFrom a rs).length = tot rs
  | _, [] => rfl
  | a, r :: rs => by simp [prFrom, prRow, tot_cons, prFrom_len _ rs]
theorem tot_le {m : Nat} : ∀ {rows : List (List Int)}, (∀ r ∈ rows, r.length ≤ m) → tot rows ≤ rows.length * m
  | [], _ => by simp [tot]
  | r :: rs, h => by
    have h1 := h r (by simp)
    have h2 := tot_le (rows := rs) fun q hq => h q (by simp [hq])
    rw [tot_cons, List.length_cons, Nat.succ_mul]; omega
theorem RelIn.tot {n : Int} {rows : List (List Int)} (h : RelIn n rows) : tot rows ≤ 1600 := by
  have h1 := tot_le (rows := rows) (m := 40) fun r hr => h.rlen hr
  have h2 : rows.length ≤ 40 := by have := h.len; have := h.hi; omega
  have := Nat.mul_le_mul_right 40 h2
  omega
/-- What has been listed when k rows are done, and i numbers of the next. -/
def prTo (rows : List (List Int)) (k i : Nat) : List Pr := prFrom 0 (rows.take k) ++ prRow k ((rows.getD k []).take i)
theorem prTo_zero (rows : List (List Int)) (k : Nat) : prTo rows k 0 = prFrom 0 (rows.take k) := by simp [prTo, prRow]
theorem prTo_succ {rows : List (List Int)} {k i : Nat} (hk : k < rows.length) (hi : i < rows[k].length) : prTo rows k (i + 1) = prTo rows k i ++ [⟨k, rows[k][i]⟩] := by
  have hg : rows.getD k [] = rows[k] := by simp [List.getD_eq_getElem?_getD, hk]
  unfold prTo
  rw [hg, List.take_succ_eq_append_getElem hi]
  simp only [prRow, List.map_append, List.map_cons, List.map_nil, List.append_assoc]
theorem prTo_row {rows : List (List Int)} {k : Nat} (hk : k < rows.length) : prTo rows k rows[k].length = prTo rows (k + 1) 0 := by
  have hg : rows.getD k [] = rows[k] := by simp [List.getD_eq_getElem?_getD, hk]
  rw [prTo_zero]
  unfold prTo
  rw [hg, List.take_length, List.take_succ_eq_append_getElem hk, prFrom_snoc]
  simp [List.length_take, Nat.min_eq_left (Nat.le_of_lt hk)]
theorem prTo_len {rows : List (List Int)} {k i : Nat} (hk : k < rows.length) (hi : i ≤ rows[k].length) : (prTo rows k i).length ≤ tot rows := by
  have hg : rows.getD k [] = rows[k] := by simp [List.getD_eq_getElem?_getD, hk]
  have h1 := tot_take_succ hk
  have h2 := tot_take_le rows (k + 1)
  unfold prTo
  rw [List.length_append, prFrom_len, hg]
  simp [prRow]
  omega
def pairsL (n : Int) (rows : List (List Int)) : List Pr := match relOk n rows with | true => prFrom 0 rows | false => []
theorem pairsL_len (n : Int) (rows : List (List Int)) : (pairsL n rows).length ≤ 1600 := by
  unfold pairsL
  split
  · rename_i h; rw [prFrom_len]; exact (relIn_of h).tot
  · simp
end Go.Proofs.Ytdhmnojnkgmmnaa

namespace Go.Proofs.Ytdhmnojnkgmmnaa
open Go.Lg
set_option maxHeartbeats 1600000
set_option maxRecDepth 10000
set_option linter.unusedVariables false
set_option linter.unusedSimpArgs false

/-- The numbers of a set, below k. -/
def listTo (s : Nat) (k : Nat) : List Int := List.map (fun i : Nat => (i : Int)) (List.filter (fun i : Nat => s.testBit i) (List.range k))
def listN (s : Nat) : List Int := listTo s 40
theorem listTo_len (s k : Nat) : (listTo s k).length ≤ k := by
  unfold listTo
  rw [List.length_map]
  exact Nat.le_trans (List.length_filter_le _ _) (by simp)
theorem listTo_succ (s k : Nat) : listTo s (k + 1) = listTo s k ++ (match hasN s (k : Int) with | true => [(k : Int)] | false => []) := by
  unfold listTo hasN
  rw [List.range_succ, List.filter_append, List.map_append]
  congr 1
  simp only [List.filter_cons, List.filter_nil, Int.toNat_natCast]
  cases s.testBit k <;> rfl

theorem list_h (s : Nat) (hs : s < 2 ^ 64) : HSpec env.P 125 [uLV s] [] (.hs 0 ((listN s).map intLV).length) [.arr 3 1 ((listN s).map intLV)] := by
  refine HSpec_of_code (E := env.x [] 0) env_ok.x (fn := Try.f125) Try.func125 rfl Try.call125 _ _ _ _ ?_
  ((repeat ((conv => whnf); first | refine brT ?_ | refine brF ?_)); conv => whnf)
  refine loop_ruleR (α := Nat) [.nil 3 1] (fun k => [(5, .int .i64 (k : Int)), (3, .hs 0 ((listTo s k).map intLV).length)]) (fun k => [.arr 3 1 ((listTo s k).map intLV)])
    (fun k => 40 - k) (fun k => k ≤ 40) 0 (Nat.zero_le _) ?_ ?_
  · refine ⟨?_, ⟨rfl, rfl, trivial⟩, rfl⟩
    ((repeat ((conv => whnf); refine ⟨rfl, rfl, ?_⟩)); trivial)
  intro k hk
  ((repeat ((conv => whnf); first | refine brT ?_ | refine brF ?_)); conv => whnf)
  (refine ⟨fun h1 => ?_, fun h1 => ?_⟩ <;> rw [h1])
  · have hlt : k < 40 := by rw [ltI_t] at h1; omega
    have hsu := listTo_succ s k
    have hl := listTo_len s k
    have hl1 := listTo_len s (k + 1)
    have e : LV.int .i64 (IntKind.i64.wrap ((k : Int) + 1)) = LV.int .i64 ((k + 1 : Nat) : Int) := step_i (n := 40) hlt (by decide)
    ((repeat ((conv => whnf); first | refine brT ?_ | refine brF ?_)); conv => whnf)
    refine ⟨_, has_spec s k hs (by omega) (by omega), ?_⟩
    ((repeat ((conv => whnf); first | refine brT ?_ | refine brF ?_)); conv => whnf)
    (refine ⟨fun h2 => ?_, fun h2 => ?_⟩ <;> rw [h2])
    · rw [h2] at hsu
      have e2 : ((listTo s k).map intLV ++ [LV.int .i64 (k : Int)]) = (listTo s (k + 1)).map intLV := by rw [hsu, List.map_append]; rfl
      have e3 : LV.hs 0 ((listTo s k).map intLV ++ [LV.int .i64 (k : Int)]).length = LV.hs 0 ((listTo s (k + 1)).map intLV).length := by rw [e2]
      ((repeat ((conv => whnf); first | refine brT ?_ | refine brF ?_)); conv => whnf)
      refine ⟨rfl, rfl, by rw [e2]; unfold Go.maxLen; simp; omega, by rw [e2]; simp; omega, ?_⟩
      ((repeat ((conv => whnf); first | refine brT ?_ | refine brF ?_)); conv => whnf)
      refine round_endR [.old 2] (k + 1) hlt (by omega) ⟨?_, ⟨rfl, congrArg (Blk.arr 3 1) e2, trivial⟩, rfl⟩
      repeat ((conv => whnf); first | refine ⟨rfl, e, ?_⟩ | refine ⟨rfl, e3, ?_⟩ | refine ⟨rfl, rfl, ?_⟩)
      trivial
    · rw [h2, List.append_nil] at hsu
      have e3 : LV.hs 0 ((listTo s k).map intLV).length = LV.hs 0 ((listTo s (k + 1)).map intLV).length := by rw [hsu]
      ((repeat ((conv => whnf); first | refine brT ?_ | refine brF ?_)); conv => whnf)
      refine round_endR [.old 0] (k + 1) hlt (by omega) ⟨?_, ⟨rfl, congrArg (Blk.arr 3 1) (by rw [hsu]), trivial⟩, rfl⟩
      repeat ((conv => whnf); first | refine ⟨rfl, e, ?_⟩ | refine ⟨rfl, e3, ?_⟩ | refine ⟨rfl, rfl, ?_⟩)
      trivial
  · have h3 : k = 40 := by rw [ltI_f] at h1; omega
    subst h3
    ((repeat ((conv => whnf); first | refine brT ?_ | refine brF ?_)); conv => whnf)
    exact ⟨[.hs 0 ((listN s).map intLV).length], rfl, rfl, .inl ⟨⟨rfl, trivial⟩, ⟨rfl, trivial⟩, rfl, rfl⟩⟩

end Go.Proofs.Ytdhmnojnkgmmnaa
namespace Go.Proofs.Ytdhmnojnkgmmnaa
open Go.Lg
set_option maxHeartbeats 1600000
set_option maxRecDepth 10000
set_option linter.unusedVariables false
set_option linter.unusedSimpArgs false

/-- The rows of what is related among n numbers. -/
def relRows (n : Nat) (P : Nat → Nat → Bool) : List (List Int) := (List.range n).map fun a => List.map (fun i : Nat => (i : Int)) (List.filter (fun b : Nat => P a b) (List.range n))
theorem relRows_len (n : Nat) (P : Nat → Nat → Bool) : (relRows n P).length = n := by simp [relRows]

theorem listTo_cut {s n : Nat} (h : ∀ i, n ≤ i → i < 40 → s.testBit i = false) (hn : n ≤ 40) : listN s = listTo s n := by
  have key : ∀ m, n ≤ m → m ≤ 40 → listTo s m = listTo s n := by
    intro m
    induction m with
    | zero => intro h1 _; have : n = 0 := by omega
              subst this; rfl
    | succ m ih =>
      intro h1 h2
      by_cases e : n = m + 1
      · subst e; rfl
      · rw [listTo_succ, ih (by omega) (by omega)]
        have : hasN s (m : Int) = false := by unfold hasN; simpa using h m (by omega) (by omega)
        rw [this]; simp
  exact key 40 hn (Nat.le_refl _)

/-- Sets of numbers, as rows. -/
theorem rows_of_sets {ss : List Nat} {n : Nat} {P : Nat → Nat → Bool} (hl : ss.length = n) (hn : n ≤ 40) (h : ∀ (a : Nat) (ha : a < ss.length) (b : Nat), b < 40 → ss[a].testBit b = (decide (b < n) && P a b)) :
    ss.map listN = relRows n P := by
  apply List.ext_getElem
  · simp [relRows, hl]
  · intro a h1 h2
    have ha : a < ss.length := by simpa using h1
    simp only [List.getElem_map, relRows, List.getElem_range]
    rw [listTo_cut (n := n) (fun i hi hi40 => by rw [h a ha i hi40]; simp; omega) hn]
    unfold listTo
    congr 1
    apply List.filter_congr
    intro b hb
    have hb : b < n := by simpa using hb
    rw [h a ha b (by omega)]; simp [hb]

theorem flatTs_rows : ∀ rows : List (List Int), flatTs (rows.map rowOw) = true
  | [] => rfl
  | r :: rs => by simp only [List.map_cons, flatTs, Bool.and_eq_true]; exact ⟨by simp only [rowOw, flatT1]; exact flats_ints r, flatTs_rows rs⟩

/-- Both valid, of one size. -/
def alike (n : Int) (rows : List (List Int)) (m : Int) (rows' : List (List Int)) : Bool := eqI n m && relOk n rows && relOk m rows'
def bLV (b : Bool) : LV := .bool b
def lineOw (l : List Bool) : LV := .own 4 1 (l.map bLV)
def lineSl (l : List Bool) : LV := .sl (l.map bLV)
theorem dms_lines : ∀ g : List (List Bool), dms (g.map lineOw) = g.map lineSl
  | [] => rfl
  | r :: rs => by simp only [List.map_cons, dms, dms_lines rs]; rfl
def blank (n k : Nat) : List (List Bool) := List.replicate k (List.replicate n false)

end Go.Proofs.Ytdhmnojnkgmmnaa
namespace Go.Proofs.Ytdhmnojnkgmmnaa
open Go.Lg
set_option maxHeartbeats 1600000
set_option maxRecDepth 10000
set_option linter.unusedVariables false
set_option linter.unusedSimpArgs false

/-- The places of a line that are true, below k. -/
def lineTo (l : List Bool) (k : Nat) : List Int := List.map (fun i : Nat => (i : Int)) (List.filter (fun i : Nat => l.getD i false) (List.range k))
def lineN (l : List Bool) : List Int := lineTo l l.length
theorem lineTo_len (l : List Bool) (k : Nat) : (lineTo l k).length ≤ k := by
  unfold lineTo
  rw [List.length_map]
  exact Nat.le_trans (List.length_filter_le _ _) (by simp)
theorem lineTo_succ {l : List Bool} {k : Nat} (h : k < l.length) : lineTo l (k + 1) = lineTo l k ++ (match l[k] with | true => [(k : Int)] | false => []) := by
  unfold lineTo
  rw [List.range_succ, List.filter_append, List.map_append]
  congr 1
  have : l.getD k false = l[k] := by simp [List.getD_eq_getElem?_getD, h]
  simp only [List.filter_cons, List.filter_nil, this]
  cases l[k] <;> rfl

end Go.Proofs.Ytdhmnojnkgmmnaa
namespace Go.Proofs.Ytdhmnojnkgmmnaa
open Go.Lg
set_option maxHeartbeats 1600000
set_option maxRecDepth 10000
set_option linter.unusedVariables false
set_option linter.unusedSimpArgs false

/-- The relation in which nobody is related, among n numbers. -/
def empN (n : Int) : Nat := if 0 ≤ n ∧ n ≤ 40 then n.toNat else 0
def empR (k : Nat) : List (List Int) := List.replicate k []
theorem empN_le (n : Int) : empN n ≤ 40 := by unfold empN; split <;> omega
theorem empN_ok {n : Int} (h0 : 0 ≤ n) (h1 : n ≤ 40) : n = (empN n : Int) := by unfold empN; rw [if_pos ⟨h0, h1⟩]; omega
theorem empN_no {n : Int} (h : ¬ (0 ≤ n ∧ n ≤ 40)) : empN n = 0 := by unfold empN; rw [if_neg h]
theorem lineN_false (n : Nat) : lineN (List.replicate n false) = [] := by
  unfold lineN lineTo
  rw [List.map_eq_nil_iff, List.filter_eq_nil_iff]
  intro i hi
  simp [List.getD_eq_getElem?_getD, List.getElem?_replicate]
  split <;> simp
theorem blank_lines (n k : Nat) : (blank n k).map lineN = empR k := by
  unfold blank empR
  rw [List.map_replicate, lineN_false]
theorem listN_zero : listN 0 = [] := by decide

theorem isSize_ok {n : Int} (h : notB (leI 0 n && leI n 40) = false) : 0 ≤ n ∧ n ≤ 40 := by
  rw [notB_f, Bool.and_eq_true] at h
  exact ⟨leI_t.1 h.1, leI_t.1 h.2⟩
theorem isSize_no {n : Int} (h : notB (leI 0 n && leI n 40) = true) : ¬ (0 ≤ n ∧ n ≤ 40) := by
  rw [notB_t] at h
  rintro ⟨a, b⟩
  rw [leI_t.2 a, leI_t.2 b] at h
  cases h

theorem empR_flat (k : Nat) : tot (empR k) = 0 := by
  unfold empR
  induction k with
  | zero => rfl
  | succ k ih => rw [List.replicate_succ, tot_cons, ih]; rfl
theorem empR_mark (j : Int) : ∀ k : Nat, markRows j (empR k) = empR k := by
  intro k
  unfold empR
  induction k generalizing j with
  | zero => rfl
  | succ k ih => rw [List.replicate_succ]; simp only [markRows]; rw [ih]; rfl

end Go.Proofs.Ytdhmnojnkgmmnaa
namespace Go.Proofs.Ytdhmnojnkgmmnaa
open Go.Lg
set_option maxHeartbeats 1600000
set_option maxRecDepth 10000
set_option linter.unusedVariables false
set_option linter.unusedSimpArgs false

/-- What the table says of a and b when k rows are done, and i numbers of the next. -/
def gAt (rows : List (List Int)) (k i a b : Nat) : Bool := decide ((a < k ∧ (b : Int) ∈ rows.getD a []) ∨ (a = k ∧ (b : Int) ∈ (rows.getD k []).take i))
def gridTo (rows : List (List Int)) (k i : Nat) : List (List Bool) := (List.range rows.length).map fun a => (List.range rows.length).map fun b => gAt rows k i a b
def gridL (rows : List (List Int)) : List (List Bool) := gridTo rows rows.length 0
theorem gridTo_len (rows : List (List Int)) (k i : Nat) : (gridTo rows k i).length = rows.length := by simp [gridTo]
theorem gridTo_zero (rows : List (List Int)) : gridTo rows 0 0 = blank rows.length rows.length := by
  unfold gridTo blank
  apply List.ext_getElem
  · simp
  · intro a h1 h2
    simp only [List.getElem_map, List.getElem_range, List.getElem_replicate]
    apply List.ext_getElem
    · simp
    · intro b h3 h4
      simp [gAt]
theorem gridTo_row {rows : List (List Int)} {k : Nat} (hk : k < rows.length) : gridTo rows k rows[k].length = gridTo rows (k + 1) 0 := by
  unfold gridTo
  have hg : rows.getD k [] = rows[k] := by simp [List.getD_eq_getElem?_getD, hk]
  apply List.map_congr_left
  intro a _
  apply List.map_congr_left
  intro b _
  unfold gAt
  rw [hg, List.take_length, decide_eq_decide]
  constructor
  · rintro (⟨h1, h2⟩ | ⟨h1, h2⟩)
    · exact .inl ⟨by omega, h2⟩
    · subst h1; exact .inl ⟨by omega, by rw [hg]; exact h2⟩
  · rintro (⟨h1, h2⟩ | ⟨h1, h2⟩)
    · by_cases e : a = k
      · subst e; rw [hg] at h2; exact .inr ⟨rfl, h2⟩
      · exact .inl ⟨by omega, h2⟩
    · simp at h2
def gLine (rows : List (List Int)) (k i : Nat) : List Bool := (List.range rows.length).map fun b => gAt rows k i k b
theorem gLine_len (rows : List (List Int)) (k i : Nat) : (gLine rows k i).length = rows.length := by simp [gLine]
theorem gridTo_get {rows : List (List Int)} {k i : Nat} (hk : k < rows.length) : (gridTo rows k i)[k]? = some (gLine rows k i) := by
  simp [gridTo, gLine, hk]
theorem gLine_set {rows : List (List Int)} {k i b : Nat} (hk : k < rows.length) (hi : i < rows[k].length) (hb : rows[k][i] = (b : Int)) : (gLine rows k i).set b true = gLine rows k (i + 1) := by
  have hg : rows.getD k [] = rows[k] := by simp [List.getD_eq_getElem?_getD, hk]
  apply List.ext_getElem
  · simp [gLine]
  · intro c h1 h2
    rw [List.getElem_set]
    simp only [gLine, List.getElem_map, List.getElem_range, gAt, hg, List.take_succ_eq_append_getElem hi, List.mem_append, List.mem_singleton, hb]
    split
    · rename_i e; subst e; simp
    · rename_i e
      rw [decide_eq_decide]
      have : ¬ ((c : Int) = (b : Int)) := by omega
      simp [this]
theorem gridTo_set {rows : List (List Int)} {k i b : Nat} (hk : k < rows.length) (hi : i < rows[k].length) (hb : rows[k][i] = (b : Int)) : (gridTo rows k i).set k (gLine rows k (i + 1)) = gridTo rows k (i + 1) := by
  have hg : rows.getD k [] = rows[k] := by simp [List.getD_eq_getElem?_getD, hk]
  apply List.ext_getElem
  · simp [gridTo]
  · intro a h1 h2
    rw [List.getElem_set]
    split
    · rename_i e; subst e; simp [gridTo, gLine]
    · rename_i e
      simp only [gridTo, List.getElem_map, List.getElem_range]
      apply List.map_congr_left
      intro c _
      unfold gAt
      rw [decide_eq_decide]
      have : ¬ (a = k) := fun h => e h.symm
      simp [this]

end Go.Proofs.Ytdhmnojnkgmmnaa
namespace Go.Proofs.Ytdhmnojnkgmmnaa
open Go.Lg
set_option maxHeartbeats 1600000
set_option maxRecDepth 10000
set_option linter.unusedVariables false
set_option linter.unusedSimpArgs false

def idxOf : Nat → List Int → Int → Int
  | _, [], _ => -1
  | k, x :: xs, v => match eqI v x with | true => (k : Int) | false => idxOf (k + 1) xs v
theorem idxOf_has : ∀ (k : Nat) (xs : List Int) (v : Int), leI 0 (idxOf k xs v) = decide (v ∈ xs)
  | k, [], v => by simp only [idxOf]; rw [show leI 0 (-1) = false by rw [leI_f]; omega]; simp
  | k, x :: xs, v => by
    simp only [idxOf]
    cases h : eqI v x
    · simp only []
      rw [idxOf_has (k + 1) xs v]
      rw [eqI_f] at h
      simp [h]
    · simp only []
      rw [eqI_t] at h
      subst h
      rw [show leI 0 (k : Int) = true by rw [leI_t]; omega]
      simp
/-- Whether a is related to b. -/
def isRel (n : Int) (rows : List (List Int)) (a b : Int) : Bool := relOk n rows && decide (0 ≤ a ∧ a < n ∧ b ∈ rows.getD a.toNat [])

theorem gLine_at {rows : List (List Int)} {a b : Nat} (ha : a < rows.length) (hb : b < rows.length) : gAt rows rows.length 0 a b = decide ((b : Int) ∈ rows[a]) := by
  have hg : rows.getD a [] = rows[a] := by simp [List.getD_eq_getElem?_getD, ha]
  unfold gAt
  rw [hg, decide_eq_decide]
  simp [ha]
def gRow (rows : List (List Int)) (a : Nat) : List Bool := (List.range rows.length).map fun b => gAt rows rows.length 0 a b
theorem gRow_len (rows : List (List Int)) (a : Nat) : (gRow rows a).length = rows.length := by simp [gRow]
theorem gridL_len (rows : List (List Int)) : (gridL rows).length = rows.length := gridTo_len rows _ _
theorem gridL_get {rows : List (List Int)} {a : Nat} (ha : a < rows.length) : (gridL rows)[a]? = some (gRow rows a) := by simp [gridL, gridTo, gRow, ha]
theorem gRow_get {rows : List (List Int)} {a b : Nat} (ha : a < rows.length) (hb : b < rows.length) : (gRow rows a)[b]? = some (decide ((b : Int) ∈ rows[a])) := by
  rw [← gLine_at ha hb]
  simp [gRow, hb]
theorem flatTs_lines : ∀ g : List (List Bool), flatTs (g.map lineOw) = true
  | [] => rfl
  | r :: rs => by
    simp only [List.map_cons, flatTs, Bool.and_eq_true]
    refine ⟨?_, flatTs_lines rs⟩
    simp only [lineOw, flatT1]
    induction r with
    | nil => rfl
    | cons x xs ih => simp only [List.map_cons, flatsB, Bool.and_eq_true]; exact ⟨rfl, ih⟩

end Go.Proofs.Ytdhmnojnkgmmnaa