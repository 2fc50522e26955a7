/- Contracts of functions of the program and of its model, told over readings. -/
import Derived.Test.YtgkjafmmekjjlaaCWGA
import Derived.Test.YtgkjafmmekjjlaaCLgPM
import Derived.Test.YtgkjafmmekjjlaaCLgMF
import Derived.Test.YtgkjafmmekjjlaaCLgWS
namespace Go.Proofs.Ytgkjafmmekjjlaa
open Go.Lg Go.Pm
set_option maxHeartbeats 1600000
set_option maxRecDepth 10000
set_option linter.unusedVariables false
set_option linter.unusedSimpArgs false

/-! ### Places -/
def boLV (b : Bool) : LV := .bool b
theorem getZ (ps : List Int) {k : Nat} (h : k < ps.length) : ps.getD k 0 = ps[k] := getD_lt h
theorem plc0 (d : Int) (ps : List Int) (n : Nat) : (plc d ps n 0).map intLV = List.replicate n (intLV d) := by simp [plc]
theorem fnd0 (ps : List Int) (n : Nat) : (fnd ps n 0).map boLV = List.replicate n (boLV false) := by simp [fnd]
theorem plcI {d : Int} {ps : List Int} {n k : Nat} (hk : k < ps.length) : ((plc d ps n k).map intLV).set ps[k].toNat (intLV (k : Int)) = (plc d ps n (k + 1)).map intLV := by
  rw [plc, getZ ps hk, List.map_set]
theorem fndI {ps : List Int} {n k : Nat} (hk : k < ps.length) : ((fnd ps n k).map boLV).set ps[k].toNat (boLV true) = (fnd ps n (k + 1)).map boLV := by
  rw [fnd, getZ ps hk, List.map_set]
def plcR (ps : List Int) : LV := match permB ps with | true => .tup [.hs 0 ps.length, .bool true] | false => .tup [.nil, .bool false]
def plcH (ps : List Int) : List Blk := match permB ps with | true => [.arr 3 1 ((inv ps).map intLV)] | false => []
theorem placesIn_h (ps : List Int) (hb : 8 * ps.length ≤ 281474976710656) : HSpec env.P 170 [rowSl ps] [] (plcR ps) (plcH ps) := by
  refine HSpec_of_code (E := env.x [] 0) env_ok.x (fn := Try.f170) Try.func170 rfl Try.call170 _ _ _ _ ?_
  ((repeat ((conv => whnf); first | refine brT ?_ | refine brF ?_)); conv => whnf)
  intro hp
  have hp' : ps.length ≤ Go.maxLen := by simpa using hp
  ((repeat ((conv => whnf); first | refine brT ?_ | refine brF ?_)); conv => whnf)
  refine ⟨ps.length, by simp, by simp, hb, hp', rfl, by decide, ?_⟩
  ((repeat ((conv => whnf); first | refine brT ?_ | refine brF ?_)); conv => whnf)
  intro _
  ((repeat ((conv => whnf); first | refine brT ?_ | refine brF ?_)); conv => whnf)
  refine ⟨ps.length, by simp, by simp, by show 1 * ps.length ≤ _; omega, hp', rfl, by decide, ?_⟩
  ((repeat ((conv => whnf); first | refine brT ?_ | refine brF ?_)); conv => whnf)
  intro _
  ((repeat ((conv => whnf); first | refine brT ?_ | refine brF ?_)); conv => whnf)
  refine loop_rule (α := Nat) (fun k => [(16, .int .i64 (k : Int))]) (fun k => [.arr 3 1 ((plc 0 ps ps.length k).map intLV), .arr 4 1 ((fnd ps ps.length k).map boLV)]) (fun k => ps.length - k) (fun k => k ≤ ps.length ∧ okTo ps ps.length k = true) 0 ⟨Nat.zero_le _, rfl⟩ ?_ ?_
  · refine ⟨?_, ⟨by rw [plc0]; rfl, by rw [fnd0]; rfl, trivial⟩, rfl, rfl⟩
    ((repeat ((conv => whnf); refine ⟨rfl, ?_⟩)); trivial)
  rintro k ⟨hk, hok⟩
  have hl1 : ps.length = ((plc 0 ps ps.length k).map intLV).length := by rw [List.length_map, plc_len]
  have hl2 : ps.length = ((fnd ps ps.length k).map boLV).length := by rw [List.length_map, fnd_len]
  ((repeat ((conv => whnf); first | refine brT ?_ | refine brF ?_)); conv => whnf)
  (refine ⟨fun h1 => ?_, fun h1 => ?_⟩ <;> rw [h1])
  · have hlt : k < ps.length := by rw [ltI_t] at h1; simp at h1; omega
    have e := step_i hlt hp'
    ((repeat ((conv => whnf); first | refine brT ?_ | refine brF ?_)); conv => whnf)
    refine ⟨k, intLV ps[k], rfl, by simp [hlt], rfl, ?_⟩
    ((repeat ((conv => whnf); first | refine brT ?_ | refine brF ?_)); conv => whnf)
    have no : ∀ (_ : ¬ (0 ≤ ps.getD k 0 ∧ ps.getD k 0 < ps.length ∧ ps.getD k 0 ∉ ps.take k)), permB ps = false := fun h => okTo_no hlt h
    rw [getZ ps hlt] at no
    (refine ⟨fun h2 => ?_, fun h2 => ?_⟩ <;> rw [h2])
    · have hn := no fun h => by rw [ltI_t] at h2; omega
      ((repeat ((conv => whnf); first | refine brT ?_ | refine brF ?_)); conv => whnf)
      unfold plcR plcH
      rw [hn]
      exact ⟨[.nil, .bool false], rfl, rfl, .inl ⟨⟨rfl, rfl, trivial⟩, trivial, rfl, rfl⟩⟩
    rw [ltI_f] at h2
    ((repeat ((conv => whnf); first | refine brT ?_ | refine brF ?_)); conv => whnf)
    intro _
    ((repeat ((conv => whnf); first | refine brT ?_ | refine brF ?_)); conv => whnf)
    (refine ⟨fun h3 => ?_, fun h3 => ?_⟩ <;> rw [h3])
    · have hn := no fun h => by rw [leI_t] at h3; simp at h3; omega
      ((repeat ((conv => whnf); first | refine brT ?_ | refine brF ?_)); conv => whnf)
      unfold plcR plcH
      rw [hn]
      exact ⟨[.nil, .bool false], rfl, rfl, .inl ⟨⟨rfl, rfl, trivial⟩, trivial, rfl, rfl⟩⟩
    rw [leI_f] at h3
    simp at h3
    have hN : ps[k].toNat < ps.length := by omega
    have hE : ps[k] = (ps[k].toNat : Int) := by omega
    ((repeat ((conv => whnf); first | refine brT ?_ | refine brF ?_)); conv => whnf)
    refine ⟨hl2, rfl, ps[k].toNat, hE, by rw [← hl2]; exact hN, ?_⟩
    ((repeat ((conv => whnf); first | refine brT ?_ | refine brF ?_)); conv => whnf)
    have hg := fnd_get hok hk ps[k].toNat hN
    rw [← hE] at hg
    refine ⟨hl2, by simp, boLV (decide (ps[k] ∈ ps.take k)), by simp only [getP]; rw [List.getElem?_map, hg]; rfl, rfl, ?_⟩
    ((repeat ((conv => whnf); first | refine brT ?_ | refine brF ?_)); conv => whnf)
    (refine ⟨fun h4 => ?_, fun h4 => ?_⟩ <;> rw [h4])
    · have hn := no fun h => h.2.2 (of_decide_eq_true h4)
      ((repeat ((conv => whnf); first | refine brT ?_ | refine brF ?_)); conv => whnf)
      unfold plcR plcH
      rw [hn]
      exact ⟨[.nil, .bool false], rfl, rfl, .inl ⟨⟨rfl, rfl, trivial⟩, trivial, rfl, rfl⟩⟩
    have hok' : okTo ps ps.length (k + 1) = true := okTo_step hok (by rw [getZ ps hlt]; exact h2) (by rw [getZ ps hlt]; exact h3) (by rw [getZ ps hlt]; exact of_decide_eq_false h4)
    ((repeat ((conv => whnf); first | refine brT ?_ | refine brF ?_)); conv => whnf)
    refine ⟨hl1, rfl, ps[k].toNat, hE, by rw [← hl1]; exact hN, ?_⟩
    ((repeat ((conv => whnf); first | refine brT ?_ | refine brF ?_)); conv => whnf)
    obtain ⟨v1, hv1⟩ : ∃ v, ((plc 0 ps ps.length k).map intLV)[ps[k].toNat]? = some (intLV v) := ⟨_, by rw [List.getElem?_map, List.getElem?_eq_getElem (by rw [plc_len]; exact hN)]; rfl⟩
    have hv2 : ((fnd ps ps.length k).map boLV)[ps[k].toNat]? = some (boLV (decide (ps[k] ∈ ps.take k))) := by rw [List.getElem?_map, hg]; rfl
    refine ⟨hl1, ps[k].toNat, [], intLV v1, rfl, by simp only [getP]; rw [hv1], rfl, rfl, rfl, (plc 0 ps ps.length (k + 1)).map intLV, by rw [hv1]; exact plcI hlt, ?_⟩
    ((repeat ((conv => whnf); first | refine brT ?_ | refine brF ?_)); conv => whnf)
    refine ⟨hl2, rfl, ps[k].toNat, hE, by rw [← hl2]; exact hN, ?_⟩
    ((repeat ((conv => whnf); first | refine brT ?_ | refine brF ?_)); conv => whnf)
    refine ⟨hl2, ps[k].toNat, [], boLV (decide (ps[k] ∈ ps.take k)), rfl, by simp only [getP]; rw [hv2], rfl, rfl, rfl, (fnd ps ps.length (k + 1)).map boLV, by rw [hv2]; exact fndI hlt, ?_⟩
    ((repeat ((conv => whnf); first | refine brT ?_ | refine brF ?_)); conv => whnf)
    refine round_end (k + 1) ⟨hlt, hok'⟩ (by omega) ⟨?_, ⟨rfl, rfl, trivial⟩, rfl, rfl⟩
    ((repeat ((conv => whnf); first | refine ⟨e, ?_⟩ | refine ⟨rfl, ?_⟩)); trivial)
  · have h3 : k = ps.length := by rw [ltI_f] at h1; simp at h1; omega
    subst h3
    have hp : permB ps = true := hok
    ((repeat ((conv => whnf); first | refine brT ?_ | refine brF ?_)); conv => whnf)
    unfold plcR plcH
    rw [hp]
    exact ⟨[.hs 0 ps.length, .bool true], rfl, rfl, .inr ⟨[.old 0], ⟨rfl, rfl, rfl, rfl, trivial⟩, ⟨rfl, by rw [plc_all hp]; rfl, trivial⟩, rfl⟩⟩
end Go.Proofs.Ytgkjafmmekjjlaa


namespace Go.Proofs.Ytgkjafmmekjjlaa
open Go.Lg Go.Pm
set_option maxHeartbeats 1600000
set_option maxRecDepth 10000
set_option linter.unusedVariables false
set_option linter.unusedSimpArgs false

theorem map_c (z : LV) : ∀ l : List Int, l.map (fun _ => z) = List.replicate l.length z
  | [] => rfl
  | x :: l => by rw [List.map_cons, map_c z l]; rfl
theorem l1Inverse_h (ps : List Int) (hb : 8 * ps.length ≤ 281474976710656) : HSpec env.P 169 [rowSl ps, .int .i64 (ps.length : Int)] [] (plcR ps) (plcH ps) := by
  refine HSpec_of_code (E := env.x [] 0) env_ok.x (fn := Try.f169) Try.func169 rfl Try.call169 _ _ _ _ ?_
  have hp' : ps.length ≤ Go.maxLen := by unfold Go.maxLen; omega
  ((repeat ((conv => whnf); first | refine brT ?_ | refine brF ?_)); conv => whnf)
  refine ⟨ps.length, by simp, by simp, hb, hp', rfl, by decide, ?_⟩
  ((repeat ((conv => whnf); first | refine brT ?_ | refine brF ?_)); conv => whnf)
  refine ⟨by simp, fun _ => ?_⟩
  ((repeat ((conv => whnf); first | refine brT ?_ | refine brF ?_)); conv => whnf)
  refine loop_rule (α := Nat) (fun k => [(14, .int .i64 (k : Int))]) (fun k => [.arr 3 1 (fillLV (fun _ : Int => intLV (-1)) (intLV 0) ps k)]) (fun k => ps.length - k) (fun k => k ≤ ps.length) 0 (Nat.zero_le _) ?_ ?_
  · refine ⟨?_, ⟨by simp [fillLV, intLV], trivial⟩, rfl, rfl⟩
    ((repeat ((conv => whnf); refine ⟨rfl, ?_⟩)); trivial)
  intro k hk
  ((repeat ((conv => whnf); first | refine brT ?_ | refine brF ?_)); conv => whnf)
  (refine ⟨fun h1 => ?_, fun h1 => ?_⟩ <;> rw [h1])
  · have hlt : k < ps.length := by rw [ltI_t] at h1; simp at h1; omega
    have e := step_i hlt hp'
    ((repeat ((conv => whnf); first | refine brT ?_ | refine brF ?_)); conv => whnf)
    refine ⟨(fill_len hk).symm, rfl, k, rfl, by rw [fill_len hk]; exact hlt, ?_⟩
    ((repeat ((conv => whnf); first | refine brT ?_ | refine brF ?_)); conv => whnf)
    refine ⟨(fill_len hk).symm, k, [], intLV 0, rfl, by simp [getP, fill_get hlt], rfl, rfl, rfl, fillLV (fun _ : Int => intLV (-1)) (intLV 0) ps (k + 1), by rw [fill_get hlt]; exact fill_set (lv := fun _ : Int => intLV (-1)) hlt, ?_⟩
    ((repeat ((conv => whnf); first | refine brT ?_ | refine brF ?_)); conv => whnf)
    refine round_end (k + 1) hlt (by omega) ⟨?_, ⟨rfl, trivial⟩, rfl, rfl⟩
    ((repeat ((conv => whnf); first | refine ⟨e, ?_⟩ | refine ⟨rfl, ?_⟩)); trivial)
  have hk' : k = ps.length := by rw [ltI_f] at h1; simp at h1; omega
  subst hk'
  have e0 : fillLV (fun _ : Int => intLV (-1)) (intLV 0) ps ps.length = (plc (-1) ps ps.length 0).map intLV := by rw [fill_all, plc0, map_c]
  rw [e0]
  ((repeat ((conv => whnf); first | refine brT ?_ | refine brF ?_)); conv => whnf)
  intro _
  ((repeat ((conv => whnf); first | refine brT ?_ | refine brF ?_)); conv => whnf)
  rw [show notB (eqI ((ps.map intLV).length : Int) (ps.length : Int)) = false by rw [List.length_map, eqI_refl]; simp [notB]]
  ((repeat ((conv => whnf); first | refine brT ?_ | refine brF ?_)); conv => whnf)
  intro _
  ((repeat ((conv => whnf); first | refine brT ?_ | refine brF ?_)); conv => whnf)
  refine loop_rule (α := Nat) (fun k => [(27, .int .i64 (k : Int))]) (fun k => [.arr 3 1 ((plc (-1) ps ps.length k).map intLV)]) (fun k => ps.length - k) (fun k => k ≤ ps.length ∧ okTo ps ps.length k = true) 0 ⟨Nat.zero_le _, rfl⟩ ?_ ?_
  · refine ⟨?_, ⟨rfl, trivial⟩, rfl, rfl⟩
    ((repeat ((conv => whnf); refine ⟨rfl, ?_⟩)); trivial)
  rintro k ⟨hk, hok⟩
  have hl1 : ps.length = ((plc (-1) ps ps.length k).map intLV).length := by rw [List.length_map, plc_len]
  ((repeat ((conv => whnf); first | refine brT ?_ | refine brF ?_)); conv => whnf)
  (refine ⟨fun h1 => ?_, fun h1 => ?_⟩ <;> rw [h1])
  · have hlt : k < ps.length := by rw [ltI_t] at h1; simp at h1; omega
    have e := step_i hlt hp'
    ((repeat ((conv => whnf); first | refine brT ?_ | refine brF ?_)); conv => whnf)
    refine ⟨k, intLV ps[k], rfl, by simp [hlt], rfl, ?_⟩
    ((repeat ((conv => whnf); first | refine brT ?_ | refine brF ?_)); conv => whnf)
    have no : ∀ (_ : ¬ (0 ≤ ps.getD k 0 ∧ ps.getD k 0 < ps.length ∧ ps.getD k 0 ∉ ps.take k)), permB ps = false := fun h => okTo_no hlt h
    rw [getZ ps hlt] at no
    (refine ⟨fun h2 => ?_, fun h2 => ?_⟩ <;> rw [h2])
    · have hn := no fun h => by rw [ltI_t] at h2; omega
      ((repeat ((conv => whnf); first | refine brT ?_ | refine brF ?_)); conv => whnf)
      unfold plcR plcH
      rw [hn]
      exact ⟨[.nil, .bool false], rfl, rfl, .inl ⟨⟨rfl, rfl, trivial⟩, trivial, rfl, rfl⟩⟩
    rw [ltI_f] at h2
    ((repeat ((conv => whnf); first | refine brT ?_ | refine brF ?_)); conv => whnf)
    (refine ⟨fun h3 => ?_, fun h3 => ?_⟩ <;> rw [h3])
    · have hn := no fun h => by rw [leI_t] at h3; omega
      ((repeat ((conv => whnf); first | refine brT ?_ | refine brF ?_)); conv => whnf)
      unfold plcR plcH
      rw [hn]
      exact ⟨[.nil, .bool false], rfl, rfl, .inl ⟨⟨rfl, rfl, trivial⟩, trivial, rfl, rfl⟩⟩
    rw [leI_f] at h3
    have hN : ps[k].toNat < ps.length := by omega
    have hE : ps[k] = (ps[k].toNat : Int) := by omega
    ((repeat ((conv => whnf); first | refine brT ?_ | refine brF ?_)); conv => whnf)
    refine ⟨hl1, rfl, ps[k].toNat, hE, by rw [← hl1]; exact hN, ?_⟩
    ((repeat ((conv => whnf); first | refine brT ?_ | refine brF ?_)); conv => whnf)
    obtain ⟨v, hv, hs⟩ := plc_sign hok hk hN
    rw [← hE] at hs
    have hv1 : ((plc (-1) ps ps.length k).map intLV)[ps[k].toNat]? = some (intLV v) := by rw [List.getElem?_map, hv]; rfl
    refine ⟨hl1, by simp, intLV v, by simp only [getP]; rw [hv1], rfl, ?_⟩
    ((repeat ((conv => whnf); first | refine brT ?_ | refine brF ?_)); conv => whnf)
    (refine ⟨fun h4 => ?_, fun h4 => ?_⟩ <;> rw [h4])
    · have hn := no fun h => h.2.2 (hs.1 (leI_t.1 h4))
      ((repeat ((conv => whnf); first | refine brT ?_ | refine brF ?_)); conv => whnf)
      unfold plcR plcH
      rw [hn]
      exact ⟨[.nil, .bool false], rfl, rfl, .inl ⟨⟨rfl, rfl, trivial⟩, trivial, rfl, rfl⟩⟩
    have hok' : okTo ps ps.length (k + 1) = true := okTo_step hok (by rw [getZ ps hlt]; exact h2) (by rw [getZ ps hlt]; exact h3) (by rw [getZ ps hlt]; intro hm; have := hs.2 hm; rw [leI_f] at h4; omega)
    ((repeat ((conv => whnf); first | refine brT ?_ | refine brF ?_)); conv => whnf)
    refine ⟨hl1, rfl, ps[k].toNat, hE, by rw [← hl1]; exact hN, ?_⟩
    ((repeat ((conv => whnf); first | refine brT ?_ | refine brF ?_)); conv => whnf)
    refine ⟨hl1, ps[k].toNat, [], intLV v, rfl, by simp only [getP]; rw [hv1], rfl, rfl, rfl, (plc (-1) ps ps.length (k + 1)).map intLV, by rw [hv1]; exact plcI hlt, ?_⟩
    ((repeat ((conv => whnf); first | refine brT ?_ | refine brF ?_)); conv => whnf)
    refine round_end (k + 1) ⟨hlt, hok'⟩ (by omega) ⟨?_, ⟨rfl, trivial⟩, rfl, rfl⟩
    ((repeat ((conv => whnf); first | refine ⟨e, ?_⟩ | refine ⟨rfl, ?_⟩)); trivial)
  · have h3 : k = ps.length := by rw [ltI_f] at h1; simp at h1; omega
    subst h3
    have hp : permB ps = true := hok
    ((repeat ((conv => whnf); first | refine brT ?_ | refine brF ?_)); conv => whnf)
    unfold plcR plcH
    rw [hp]
    exact ⟨[.hs 0 ps.length, .bool true], rfl, rfl, .inr ⟨[.old 0], ⟨rfl, rfl, rfl, rfl, trivial⟩, ⟨rfl, rfl, trivial⟩, rfl⟩⟩
theorem isPerm_impl (ps : List Int) (hb : 8 * ps.length ≤ 281474976710656) : FSpec env.P 145 [rowSl ps] (.bool (permB ps)) := by
  refine FSpec_of_code (E := env.x [170] 0) env_ok.x (fn := Try.f145) Try.func145 rfl Try.call145 _ _ ?_
  have h := placesIn_h ps hb
  unfold plcR plcH at h
  cases hp : permB ps <;> rw [hp] at h <;> ((repeat ((conv => whnf); first | refine brT ?_ | refine brF ?_)); conv => whnf)
  all_goals
    refine ⟨[], _, _, _, _, h, rfl, rfl, rfl, trivial, ?_⟩
    ((repeat ((conv => whnf); first | refine brT ?_ | refine brF ?_)); conv => whnf)
    exact fin rfl
theorem isPerm_spec (ps : List Int) (hb : 8 * ps.length ≤ 281474976710656) : FSpec env.P 144 [rowSl ps] (.bool (permB ps)) := by
  refine FSpec_of_code (E := env.x [169] 0) env_ok.x (fn := Try.f144) Try.func144 rfl Try.call144 _ _ ?_
  have h := l1Inverse_h ps hb
  unfold plcR plcH at h
  cases hp : permB ps <;> rw [hp] at h <;> ((repeat ((conv => whnf); first | refine brT ?_ | refine brF ?_)); conv => whnf)
  all_goals
    intro _
    rw [List.length_map]
    ((repeat ((conv => whnf); first | refine brT ?_ | refine brF ?_)); conv => whnf)
    refine ⟨[], _, _, _, _, h, rfl, rfl, rfl, trivial, ?_⟩
    ((repeat ((conv => whnf); first | refine brT ?_ | refine brF ?_)); conv => whnf)
    exact fin rfl
theorem ints_f {f : FuncId} {args : List LV} {xs : List Int} (h : HSpec env.P f args [] (.hs 0 (xs.map intLV).length) [.arr 3 1 (xs.map intLV)]) : FSpec env.P f args (rowOw xs) :=
  FSpec_of_HSpec h (by unfold rowOw; simp [exW])
end Go.Proofs.Ytgkjafmmekjjlaa


namespace Go.Proofs.Ytgkjafmmekjjlaa
open Go.Lg Go.Pm
set_option maxHeartbeats 1600000
set_option maxRecDepth 10000
set_option linter.unusedVariables false
set_option linter.unusedSimpArgs false

/-! ### Composition -/
/-- The composition of lists that are permutations of as many numbers; nothing of others. -/
def cmpB (ps qs : List Int) : Bool := eqI (ps.length : Int) (qs.length : Int) && (permB ps && permB qs)
end Go.Proofs.Ytgkjafmmekjjlaa

namespace Go.Proofs.Ytgkjafmmekjjlaa
open Go.Lg
set_option maxHeartbeats 1600000
set_option maxRecDepth 10000
set_option linter.unusedVariables false
set_option linter.unusedSimpArgs false

/-- How many integers the rows have. -/
def tot (rows : List (List Int)) : Nat := (rows.map List.length).sum
theorem tot_cons (r : List Int) (rs : List (List Int)) : tot (r :: rs) = r.length + tot rs := by simp [tot]
end Go.Proofs.Ytgkjafmmekjjlaa

namespace Go.Proofs.Ytgkjafmmekjjlaa
open Go.Lg
set_option maxHeartbeats 1600000
set_option maxRecDepth 10000
set_option linter.unusedVariables false
set_option linter.unusedSimpArgs false

def rowFrom (size : Int) : Int → List Int → Bool
  | _, [] => true
  | last, b :: bs => match leI b last with | true => false | false => match leI size b with | true => false | false => rowFrom size b bs
end Go.Proofs.Ytgkjafmmekjjlaa

namespace Go.Proofs.Ytgkjafmmekjjlaa
open Go.Lg
set_option maxHeartbeats 1600000
set_option maxRecDepth 10000
set_option linter.unusedVariables false
set_option linter.unusedSimpArgs false

structure RowsLen (rows : List (List Int)) : Prop where
  n : rows.length ≤ Go.maxLen
  each : ∀ r ∈ rows, r.length ≤ Go.maxLen

theorem szN_ok {l : Int} {n : Nat} (h0 : 0 ≤ l) (h1 : l ≤ 1048576) (hn : n ≤ Go.maxLen) (h : 0 ≤ szN l n) : szN l n = l - n ∧ (n : Int) ≤ l := by
  unfold szN at h ⊢
  rw [wrap_sub h0 h1 hn] at h ⊢
  split at h
  · omega
  · exact ⟨rfl, by omega⟩
abbrev shInts : Sh := .sl (.int .i64)
theorem ints_of : ∀ (xs : List LV), (∀ x ∈ xs, hasSh (.int .i64) x) → ∃ ns : List Int, xs = ns.map intLV
  | [], _ => ⟨[], rfl⟩
  | x :: xs, h => by
    obtain ⟨ns, rfl⟩ := ints_of xs fun y hy => h y (by simp [hy])
    have h0 := h x (by simp)
    simp only [hasSh] at h0
    obtain ⟨n, rfl⟩ := h0
    exact ⟨n :: ns, rfl⟩
theorem row_of_sh {x : LV} (h : hasSh shInts x) : ∃ r : List Int, x = rowSl r ∧ r.length ≤ Go.maxLen := by
  simp only [hasSh] at h
  obtain ⟨xs, rfl, hl, h⟩ := h
  obtain ⟨ns, rfl⟩ := ints_of xs fun x hx => by simp only [hasSh]; exact h x hx
  exact ⟨ns, rfl, by simpa using hl⟩
theorem eqB_refl (b : Bool) : eqB b b = true := by unfold eqB; simp

end Go.Proofs.Ytgkjafmmekjjlaa

namespace Go.Proofs.Ytgkjafmmekjjlaa
open Go.Lg Go.Pm
set_option maxHeartbeats 3200000
set_option maxRecDepth 10000
set_option linter.unusedVariables false
set_option linter.unusedSimpArgs false

end Go.Proofs.Ytgkjafmmekjjlaa

namespace Go.Proofs.Ytgkjafmmekjjlaa
open Go.Lg
set_option maxHeartbeats 1600000
set_option maxRecDepth 10000
set_option linter.unusedVariables false
set_option linter.unusedSimpArgs false

/-! ### Bits -/
end Go.Proofs.Ytgkjafmmekjjlaa

namespace Go.Proofs.Ytgkjafmmekjjlaa
open Go.Lg
set_option maxHeartbeats 1600000
set_option maxRecDepth 10000
set_option linter.unusedVariables false
set_option linter.unusedSimpArgs false

theorem rowFrom_cons {n last b : Int} {bs : List Int} (h : rowFrom n last (b :: bs) = true) : last < b ∧ b < n ∧ rowFrom n b bs = true := by
  simp only [rowFrom] at h
  split at h
  · cases h
  · rename_i h1
    split at h
    · cases h
    · rename_i h2
      rw [leI_f] at h1 h2
      exact ⟨h1, h2, h⟩
theorem rowFrom_len : ∀ {r : List Int} {n last : Int}, rowFrom n last r = true → (r.length : Int) + last ≤ n - 1 ∨ r = []
  | [], _, _, _ => .inr rfl
  | x :: xs, n, last, h => by
    obtain ⟨h1, h2, h3⟩ := rowFrom_cons h
    left
    rcases rowFrom_len h3 with h4 | rfl
    · simp only [List.length_cons]; omega
    · simp; omega
structure RelIn (n : Int) (rows : List (List Int)) : Prop where
  lo : 0 ≤ n
  hi : n ≤ 40
  len : (rows.length : Int) = n
  row : ∀ r ∈ rows, rowFrom n (-1) r = true
theorem RelIn.rlen {n : Int} {rows : List (List Int)} (h : RelIn n rows) {r : List Int} (hr : r ∈ rows) : r.length ≤ 40 := by
  have h1 := h.hi
  rcases rowFrom_len (h.row r hr) with h2 | rfl
  · omega
  · simp

/-! ### Pairs -/
structure Pr where
  a : Int
  b : Int
def Pr.lv (p : Pr) : LV := .st [.int .i64 p.a, .int .i64 p.b]
theorem tot_le {m : Nat} : ∀ {rows : List (List Int)}, (∀ r ∈ rows, r.length ≤ m) → tot rows ≤ rows.length * m
  | [], _ => by simp [tot]
  | r :: rs, h => by
    have h1 := h r (by simp)
    have h2 := tot_le (rows := rs) fun q hq => h q (by simp [hq])
    rw [tot_cons, List.length_cons, Nat.succ_mul]; omega
theorem RelIn.tot {n : Int} {rows : List (List Int)} (h : RelIn n rows) : tot rows ≤ 1600 := by
  have h1 := tot_le (rows := rows) (m := 40) fun r hr => h.rlen hr
  have h2 : rows.length ≤ 40 := by have := h.len; have := h.hi; omega
  have := Nat.mul_le_mul_right 40 h2
  omega
end Go.Proofs.Ytgkjafmmekjjlaa


namespace Go.Proofs.Ytgkjafmmekjjlaa
open Go.Lg
set_option maxHeartbeats 1600000
set_option maxRecDepth 10000
set_option linter.unusedVariables false
set_option linter.unusedSimpArgs false

end Go.Proofs.Ytgkjafmmekjjlaa

namespace Go.Proofs.Ytgkjafmmekjjlaa
open Go.Lg
set_option maxHeartbeats 1600000
set_option maxRecDepth 10000
set_option linter.unusedVariables false
set_option linter.unusedSimpArgs false

end Go.Proofs.Ytgkjafmmekjjlaa

namespace Go.Proofs.Ytgkjafmmekjjlaa
open Go.Lg
set_option maxHeartbeats 1600000
set_option maxRecDepth 10000
set_option linter.unusedVariables false
set_option linter.unusedSimpArgs false

end Go.Proofs.Ytgkjafmmekjjlaa

namespace Go.Proofs.Ytgkjafmmekjjlaa
open Go.Lg
set_option maxHeartbeats 1600000
set_option maxRecDepth 10000
set_option linter.unusedVariables false
set_option linter.unusedSimpArgs false

end Go.Proofs.Ytgkjafmmekjjlaa

namespace Go.Proofs.Ytgkjafmmekjjlaa
open Go.Lg
set_option maxHeartbeats 1600000
set_option maxRecDepth 10000
set_option linter.unusedVariables false
set_option linter.unusedSimpArgs false

end Go.Proofs.Ytgkjafmmekjjlaa

namespace Go.Proofs.Ytgkjafmmekjjlaa
open Go.Lg
set_option maxHeartbeats 1600000
set_option maxRecDepth 10000
set_option linter.unusedVariables false
set_option linter.unusedSimpArgs false

def idxOf : Nat → List Int → Int → Int
  | _, [], _ => -1
  | k, x :: xs, v => match eqI v x with | true => (k : Int) | false => idxOf (k + 1) xs v
end Go.Proofs.Ytgkjafmmekjjlaa

namespace Go.Proofs.Ytgkjafmmekjjlaa
open Go.Lg
set_option maxHeartbeats 1600000
set_option maxRecDepth 10000
set_option linter.unusedVariables false
set_option linter.unusedSimpArgs false

/-! ### Tables and sets of one predicate -/
/-! ### Sets -/
/-! ### Rounds -/
end Go.Proofs.Ytgkjafmmekjjlaa


namespace Go.Proofs.Ytgkjafmmekjjlaa
open Go.Lg
set_option maxHeartbeats 1600000
set_option maxRecDepth 10000
set_option linter.unusedVariables false
set_option linter.unusedSimpArgs false

theorem RelIn.size {n : Int} {rows : List (List Int)} (h : RelIn n rows) : rows.length ≤ 40 := by have := h.len; have := h.hi; omega
end Go.Proofs.Ytgkjafmmekjjlaa

namespace Go.Proofs.Ytgkjafmmekjjlaa
open Go.Lg
set_option maxHeartbeats 1600000
set_option maxRecDepth 10000
set_option linter.unusedVariables false
set_option linter.unusedSimpArgs false

end Go.Proofs.Ytgkjafmmekjjlaa

namespace Go.Proofs.Ytgkjafmmekjjlaa
open Go.Lg
set_option maxHeartbeats 1600000
set_option maxRecDepth 10000
set_option linter.unusedVariables false
set_option linter.unusedSimpArgs false

/-! ### The closure, by rows and place by place -/
end Go.Proofs.Ytgkjafmmekjjlaa

namespace Go.Proofs.Ytgkjafmmekjjlaa
open Go.Lg
set_option maxHeartbeats 1600000
set_option maxRecDepth 10000
set_option linter.unusedVariables false
set_option linter.unusedSimpArgs false

/-! ### Composition -/
end Go.Proofs.Ytgkjafmmekjjlaa

namespace Go.Proofs.Ytgkjafmmekjjlaa
open Go.Lg
set_option maxHeartbeats 1600000
set_option maxRecDepth 10000
set_option linter.unusedVariables false
set_option linter.unusedSimpArgs false

end Go.Proofs.Ytgkjafmmekjjlaa

namespace Go.Proofs.Ytgkjafmmekjjlaa
open Go.Lg
set_option maxHeartbeats 1600000
set_option maxRecDepth 10000
set_option linter.unusedVariables false
set_option linter.unusedSimpArgs false

/-! ### Composition place by place -/
end Go.Proofs.Ytgkjafmmekjjlaa

namespace Go.Proofs.Ytgkjafmmekjjlaa
open Go.Lg
set_option maxHeartbeats 1600000
set_option maxRecDepth 10000
set_option linter.unusedVariables false
set_option linter.unusedSimpArgs false

end Go.Proofs.Ytgkjafmmekjjlaa

namespace Go.Proofs.Ytgkjafmmekjjlaa
open Go.Lg
set_option maxHeartbeats 1600000
set_option maxRecDepth 10000
set_option linter.unusedVariables false
set_option linter.unusedSimpArgs false

end Go.Proofs.Ytgkjafmmekjjlaa

namespace Go.Proofs.Ytgkjafmmekjjlaa
open Go.Lg
set_option maxHeartbeats 1600000
set_option maxRecDepth 10000
set_option linter.unusedVariables false
set_option linter.unusedSimpArgs false

end Go.Proofs.Ytgkjafmmekjjlaa

namespace Go.Proofs.Ytgkjafmmekjjlaa
open Go.Lg
set_option maxHeartbeats 1600000
set_option maxRecDepth 10000
set_option linter.unusedVariables false
set_option linter.unusedSimpArgs false

end Go.Proofs.Ytgkjafmmekjjlaa

namespace Go.Proofs.Ytgkjafmmekjjlaa
open Go.Lg
set_option maxHeartbeats 1600000
set_option maxRecDepth 10000
set_option linter.unusedVariables false
set_option linter.unusedSimpArgs false

/-! A row whose element i is written field by field. -/
section
variable {L : List LV} {i : Nat}
theorem fw_get (h : i < L.length) (fs : List LV) : getP (.st (L.set i (.st fs))) [i] = some (.st fs) := by simp [getP, h]
theorem fw_get2 (h : i < L.length) {fs : List LV} {f : Nat} {x : LV} (hx : fs[f]? = some x) : getP (.st (L.set i (.st fs))) [i, f] = some x := by simp [getP, h, hx]
theorem fw_set (h : i < L.length) {fs : List LV} {f : Nat} {x : LV} (hx : fs[f]? = some x) (v : LV) :
    (match (L.set i (.st fs))[i]? with | some z => (L.set i (.st fs)).set i (setP z [f] v) | none => L.set i (.st fs)) = L.set i (.st (fs.set f v)) := by
  have : (L.set i (.st fs))[i]? = some (.st fs) := by simp [h]
  rw [this]
  simp only [setP, hx]
  cases x <;> simp [List.set_set]
end

def markPer (k : Nat) : Per := ⟨mText k, (k : Int) + 1, (k : Int) + 2, (k : Int) + 3, (k : Int) + 4, (k : Int) + 5⟩
def markPers (k : Nat) : Nat → List Per
  | 0 => []
  | n + 1 => markPers k n ++ [markPer (k + 6 * n)]
theorem markPers_len (k : Nat) : ∀ n, (markPers k n).length = n
  | 0 => rfl
  | n + 1 => by simp [markPers, markPers_len k n]
def rowPM (k : Nat) (ps : List Per) (i : Nat) : List LV := (markPers k i ++ ps.drop i).map Per.lv
theorem rowPM_len {k : Nat} {ps : List Per} {i : Nat} (h : i ≤ ps.length) : (rowPM k ps i).length = ps.length := by simp [rowPM, markPers_len]; omega
theorem rowPM_get {k : Nat} {ps : List Per} {i : Nat} (h : i < ps.length) : (rowPM k ps i)[i]? = some ps[i].lv := by
  unfold rowPM
  rw [List.getElem?_map, List.getElem?_append_right (by rw [markPers_len]; exact Nat.le_refl _), markPers_len, Nat.sub_self, List.getElem?_drop, Nat.add_zero, List.getElem?_eq_getElem h]
  rfl
theorem rowPM_set {k : Nat} {ps : List Per} {i : Nat} (h : i < ps.length) : (rowPM k ps i).set i (markPer (k + 6 * i)).lv = rowPM k ps (i + 1) := by
  unfold rowPM
  rw [List.drop_eq_getElem_cons h, List.map_append, List.map_cons, List.set_append_right _ _ (by simp [markPers_len])]
  simp [markPers, markPers_len]

theorem markPersonS_spec (ps : List Per) (n : Nat) (hn : n = (ps.map Per.lv).length) (k : Nat) (h1 : k + 6 * ps.length ≤ 2305843009213693952) :
    HSpec env.P 65 [.hs 0 n, .int .i64 (k : Int)] [.arr 106 6 (ps.map Per.lv)] (.int .i64 ((k + 6 * ps.length : Nat) : Int)) [.arr 106 6 ((markPers k ps.length).map Per.lv)] := by
  subst hn
  refine HSpec_of_code (E := env.x [] 1) env_ok.x (fn := Try.f65) Try.func65 rfl Try.call65 _ _ _ _ ?_
  ((repeat ((conv => whnf); first | refine brT ?_ | refine brF ?_)); conv => whnf)
  refine loop_rule (α := Nat) (fun i => [(5, .int .i64 (i : Int)), (1, .int .i64 ((k + 6 * i : Nat) : Int)), (0, .hs 0 (rowPM k ps i).length)]) (fun i => [.arr 106 6 (rowPM k ps i)]) (fun i => ps.length - i) (fun i => i ≤ ps.length) 0 (Nat.zero_le _) ?_ ?_
  · have e0 : ps.map Per.lv = rowPM k ps 0 := by simp [rowPM, markPers]
    have e1 : LV.hs 0 (ps.map Per.lv).length = LV.hs 0 (rowPM k ps 0).length := by rw [e0]
    refine ⟨?_, ⟨congrArg (Blk.arr 106 6) e0, trivial⟩, rfl, rfl⟩
    ((repeat ((conv => whnf); first | refine ⟨e1, ?_⟩ | refine ⟨rfl, ?_⟩)); trivial)
  intro i hi
  have hl := rowPM_len (k := k) hi
  ((repeat ((conv => whnf); first | refine brT ?_ | refine brF ?_)); conv => whnf)
  refine ⟨rfl, fun hm => ?_⟩
  have hm' : ps.length ≤ Go.maxLen := by rw [← hl]; exact hm
  ((repeat ((conv => whnf); first | refine brT ?_ | refine brF ?_)); conv => whnf)
  (refine ⟨fun g1 => ?_, fun g1 => ?_⟩ <;> rw [g1])
  · have hlt : i < ps.length := by rw [ltI_t] at g1; omega
    have e := step_i hlt hm'
    have hiL : i < (rowPM k ps i).length := by omega
    have hg := rowPM_get (k := k) hlt
    have hset := rowPM_set (k := k) hlt
    have w0 : IntKind.i64.wrap (((k + 6 * i : Nat) : Int) + 1) = ((k + 6 * i : Nat) : Int) + 1 := wrap64 (by omega) (by omega)
    have w1 : IntKind.i64.wrap (((k + 6 * i : Nat) : Int) + 1 + 1) = ((k + 6 * i : Nat) : Int) + 2 := by rw [wrap64 (by omega) (by omega)]; omega
    have w2 : IntKind.i64.wrap (((k + 6 * i : Nat) : Int) + 2 + 1) = ((k + 6 * i : Nat) : Int) + 3 := by rw [wrap64 (by omega) (by omega)]; omega
    have w3 : IntKind.i64.wrap (((k + 6 * i : Nat) : Int) + 3 + 1) = ((k + 6 * i : Nat) : Int) + 4 := by rw [wrap64 (by omega) (by omega)]; omega
    have w4 : IntKind.i64.wrap (((k + 6 * i : Nat) : Int) + 4 + 1) = ((k + 6 * i : Nat) : Int) + 5 := by rw [wrap64 (by omega) (by omega)]; omega
    have w5 : IntKind.i64.wrap (((k + 6 * i : Nat) : Int) + 5 + 1) = ((k + 6 * (i + 1) : Nat) : Int) := by rw [wrap64 (by omega) (by omega)]; omega
    have hlen : ∀ x : LV, (rowPM k ps i).length = ((rowPM k ps i).set i x).length := fun x => by simp
    generalize ps[i] = p at hg hset
    generalize hK : ((k + 6 * i : Nat) : Int) = kk at w0 w1 w2 w3 w4 w5 ⊢
    generalize hN : mText (k + 6 * i) = nm
    have hmt := markText_spec (k + 6 * i) (by omega)
    rw [hK, hN] at hmt
    have hfin : (rowPM k ps i).set i (.st [.str nm, .int .i64 (kk + 1), .int .i64 (kk + 2), .int .i64 (kk + 3), .int .i64 (kk + 4), .int .i64 (kk + 5)]) = rowPM k ps (i + 1) := by
      rw [← hset]; unfold markPer Per.lv; rw [hK, hN]
    generalize rowPM k ps i = L at hl hm hiL hg hlen hfin g1 ⊢
    have hgp : getP (.st L) [i] = some (.st [LV.str p.name, LV.int .i64 p.sex, LV.int .i64 p.father, LV.int .i64 p.mother, LV.int .i64 p.born, LV.int .i64 p.died]) := by simp [getP, hg, Per.lv]
    have hgp0 : getP (.st L) [i, 0] = some (.str p.name) := by simp [getP, hg, Per.lv]
    ((repeat ((conv => whnf); first | refine brT ?_ | refine brF ?_)); conv => whnf)
    refine ⟨_, hmt, ?_⟩
    ((repeat ((conv => whnf); first | refine brT ?_ | refine brF ?_)); conv => whnf)
    refine ⟨rfl, rfl, i, rfl, hiL, ?_⟩
    ((repeat ((conv => whnf); first | refine brT ?_ | refine brF ?_)); conv => whnf)
    refine ⟨rfl, by simp, [LV.str p.name, LV.int .i64 p.sex, LV.int .i64 p.father, LV.int .i64 p.mother, LV.int .i64 p.born, LV.int .i64 p.died], hgp, rfl, by simp, ?_⟩
    ((repeat ((conv => whnf); first | refine brT ?_ | refine brF ?_)); conv => whnf)
    refine ⟨rfl, i, [0], .str p.name, rfl, hgp0, rfl, rfl, rfl, L.set i (.st [.str nm, .int .i64 p.sex, .int .i64 p.father, .int .i64 p.mother, .int .i64 p.born, .int .i64 p.died]), by rw [hg]; rfl, ?_⟩
    ((repeat ((conv => whnf); first | refine brT ?_ | refine brF ?_)); conv => whnf)
    rw [w0]
    refine ⟨hlen _, rfl, i, rfl, by simpa using hiL, ?_⟩
    ((repeat ((conv => whnf); first | refine brT ?_ | refine brF ?_)); conv => whnf)
    refine ⟨hlen _, by simp, _, fw_get hiL _, rfl, by simp, ?_⟩
    ((repeat ((conv => whnf); first | refine brT ?_ | refine brF ?_)); conv => whnf)
    refine ⟨hlen _, i, [1], _, rfl, fw_get2 hiL rfl, rfl, rfl, rfl, _, fw_set hiL rfl (.int .i64 (kk + 1)), ?_⟩
    ((repeat ((conv => whnf); first | refine brT ?_ | refine brF ?_)); conv => whnf)
    rw [w1]
    refine ⟨hlen _, rfl, i, rfl, by simpa using hiL, ?_⟩
    ((repeat ((conv => whnf); first | refine brT ?_ | refine brF ?_)); conv => whnf)
    refine ⟨hlen _, by simp, _, fw_get hiL _, rfl, by simp, ?_⟩
    ((repeat ((conv => whnf); first | refine brT ?_ | refine brF ?_)); conv => whnf)
    refine ⟨hlen _, i, [2], _, rfl, fw_get2 hiL rfl, rfl, rfl, rfl, _, fw_set hiL rfl (.int .i64 (kk + 2)), ?_⟩
    ((repeat ((conv => whnf); first | refine brT ?_ | refine brF ?_)); conv => whnf)
    rw [w2]
    refine ⟨hlen _, rfl, i, rfl, by simpa using hiL, ?_⟩
    ((repeat ((conv => whnf); first | refine brT ?_ | refine brF ?_)); conv => whnf)
    refine ⟨hlen _, by simp, _, fw_get hiL _, rfl, by simp, ?_⟩
    ((repeat ((conv => whnf); first | refine brT ?_ | refine brF ?_)); conv => whnf)
    refine ⟨hlen _, i, [3], _, rfl, fw_get2 hiL rfl, rfl, rfl, rfl, _, fw_set hiL rfl (.int .i64 (kk + 3)), ?_⟩
    ((repeat ((conv => whnf); first | refine brT ?_ | refine brF ?_)); conv => whnf)
    rw [w3]
    refine ⟨hlen _, rfl, i, rfl, by simpa using hiL, ?_⟩
    ((repeat ((conv => whnf); first | refine brT ?_ | refine brF ?_)); conv => whnf)
    refine ⟨hlen _, by simp, _, fw_get hiL _, rfl, by simp, ?_⟩
    ((repeat ((conv => whnf); first | refine brT ?_ | refine brF ?_)); conv => whnf)
    refine ⟨hlen _, i, [4], _, rfl, fw_get2 hiL rfl, rfl, rfl, rfl, _, fw_set hiL rfl (.int .i64 (kk + 4)), ?_⟩
    ((repeat ((conv => whnf); first | refine brT ?_ | refine brF ?_)); conv => whnf)
    rw [w4]
    refine ⟨hlen _, rfl, i, rfl, by simpa using hiL, ?_⟩
    ((repeat ((conv => whnf); first | refine brT ?_ | refine brF ?_)); conv => whnf)
    refine ⟨hlen _, by simp, _, fw_get hiL _, rfl, by simp, ?_⟩
    ((repeat ((conv => whnf); first | refine brT ?_ | refine brF ?_)); conv => whnf)
    refine ⟨hlen _, i, [5], _, rfl, fw_get2 hiL rfl, rfl, rfl, rfl, _, fw_set hiL rfl (.int .i64 (kk + 5)), ?_⟩
    ((repeat ((conv => whnf); first | refine brT ?_ | refine brF ?_)); conv => whnf)
    have e5 : LV.hs 0 L.length = LV.hs 0 (rowPM k ps (i + 1)).length := by rw [hl, rowPM_len (by omega)]
    have e6 : LV.int .i64 (IntKind.i64.wrap (kk + 5 + 1)) = LV.int .i64 ((k + 6 * (i + 1) : Nat) : Int) := by rw [w5]
    refine round_end (i + 1) hlt (by omega) ⟨?_, ⟨congrArg (Blk.arr 106 6) hfin, trivial⟩, rfl, rfl⟩
    repeat ((conv => whnf); first | refine ⟨e, ?_⟩ | refine ⟨e6, ?_⟩ | refine ⟨e5, ?_⟩ | refine ⟨rfl, ?_⟩)
    trivial
  · have h3 : i = ps.length := by rw [ltI_f] at g1; omega
    subst h3
    ((repeat ((conv => whnf); first | refine brT ?_ | refine brF ?_)); conv => whnf)
    exact ⟨[.int .i64 ((k + 6 * ps.length : Nat) : Int)], rfl, rfl, .inl ⟨⟨rfl, trivial⟩, ⟨by simp [rowPM], trivial⟩, rfl, rfl⟩⟩
end Go.Proofs.Ytgkjafmmekjjlaa


namespace Go.Proofs.Ytgkjafmmekjjlaa
open Go.Lg
set_option maxHeartbeats 1600000
set_option maxRecDepth 10000
set_option linter.unusedVariables false
set_option linter.unusedSimpArgs false

def Pr.eq (p q : Pr) : Bool := eqI p.a q.a && eqI p.b q.b
theorem Pr.eq_refl (p : Pr) : p.eq p = true := by simp [Pr.eq, eqI_refl]
theorem eqPairS_refl (ps : List Pr) : eqList Pr.eq ps ps = true := eqList_refl Pr.eq_refl ps

end Go.Proofs.Ytgkjafmmekjjlaa

namespace Go.Proofs.Ytgkjafmmekjjlaa
open Go.Lg
set_option maxHeartbeats 1600000
set_option maxRecDepth 10000
set_option linter.unusedVariables false
set_option linter.unusedSimpArgs false

/-! ### Wrappers of the model -/
/-! ### Equality -/
end Go.Proofs.Ytgkjafmmekjjlaa

namespace Go.Proofs.Ytgkjafmmekjjlaa
open Go.Lg
set_option maxHeartbeats 1600000
set_option maxRecDepth 10000
set_option linter.unusedVariables false
set_option linter.unusedSimpArgs false

end Go.Proofs.Ytgkjafmmekjjlaa

namespace Go.Proofs.Ytgkjafmmekjjlaa
open Go.Lg
set_option maxHeartbeats 1600000
set_option maxRecDepth 10000
set_option linter.unusedVariables false
set_option linter.unusedSimpArgs false

end Go.Proofs.Ytgkjafmmekjjlaa

namespace Go.Proofs.Ytgkjafmmekjjlaa
open Go.Lg
set_option maxHeartbeats 1600000
set_option maxRecDepth 10000
set_option linter.unusedVariables false
set_option linter.unusedSimpArgs false

end Go.Proofs.Ytgkjafmmekjjlaa

namespace Go.Proofs.Ytgkjafmmekjjlaa
open Go.Lg
set_option maxHeartbeats 1600000
set_option maxRecDepth 10000
set_option linter.unusedVariables false
set_option linter.unusedSimpArgs false

end Go.Proofs.Ytgkjafmmekjjlaa

namespace Go.Proofs.Ytgkjafmmekjjlaa
open Go.Lg
set_option maxHeartbeats 1600000
set_option maxRecDepth 10000
set_option linter.unusedVariables false
set_option linter.unusedSimpArgs false

/-! A step is a pair: its kind and its age. -/
end Go.Proofs.Ytgkjafmmekjjlaa

namespace Go.Proofs.Ytgkjafmmekjjlaa
open Go.Lg
set_option maxHeartbeats 1600000
set_option maxRecDepth 10000
set_option linter.unusedVariables false
set_option linter.unusedSimpArgs false

theorem eqI_d (a b : Int) : eqI a b = decide (a = b) := by rw [Bool.eq_iff_iff, eqI_t]; simp
end Go.Proofs.Ytgkjafmmekjjlaa

namespace Go.Proofs.Ytgkjafmmekjjlaa
open Go.Lg
set_option maxHeartbeats 1600000
set_option maxRecDepth 10000
set_option linter.unusedVariables false
set_option linter.unusedSimpArgs false

end Go.Proofs.Ytgkjafmmekjjlaa

namespace Go.Proofs.Ytgkjafmmekjjlaa
open Go.Lg Go.Pm
set_option maxHeartbeats 3200000
set_option maxRecDepth 10000
set_option linter.unusedVariables false
set_option linter.unusedSimpArgs false

/-! ### Classes -/
def clsLV (w c : List Int) : LV := .st [rowSl w, rowSl c]
def clsHS (n m : Nat) : LV := .st [.hs 0 n, .hs 1 m]
def clsH (w c : List Int) : List Blk := [.arr 3 1 (w.map intLV), .arr 3 1 (c.map intLV)]
theorem toClasses_h (w c : List Int) (hw : 8 * w.length ≤ 281474976710656) (hc : 8 * c.length ≤ 281474976710656) : HSpec env.P 34 [clsLV w c] [] (clsHS (w.map intLV).length (c.map intLV).length) (clsH w c) := by
  refine HSpec_of_code (E := env.x [35] 0) env_ok.x (fn := Try.f34) Try.func34 rfl Try.call34 _ _ _ _ ?_
  ((repeat ((conv => whnf); first | refine brT ?_ | refine brF ?_)); conv => whnf)
  refine ⟨[], _, _, _, _, toIntS_h w hw, rfl, rfl, rfl, trivial, ?_⟩
  ((repeat ((conv => whnf); first | refine brT ?_ | refine brF ?_)); conv => whnf)
  refine ⟨[], _, _, _, _, toIntS_h c hc, rfl, rfl, rfl, trivial, ?_⟩
  ((repeat ((conv => whnf); first | refine brT ?_ | refine brF ?_)); conv => whnf)
  refine ⟨[clsHS (w.map intLV).length (c.map intLV).length], rfl, rfl, .inr ⟨[.old 3, .old 4], ?_, ?_, rfl⟩⟩
  · ((repeat ((conv => whnf); refine ⟨rfl, rfl, ?_⟩)); trivial)
  · exact ⟨rfl, rfl, rfl, rfl, trivial⟩
theorem toClasses_f (w c : List Int) (hw : 8 * w.length ≤ 281474976710656) (hc : 8 * c.length ≤ 281474976710656) : FSpec env.P 34 [clsLV w c] (clsLV w c) := by
  refine FSpec_of_code env_ok (fn := Try.f34) Try.func34 rfl Try.call34 _ _ ?_
  ((repeat ((conv => whnf); first | refine brT ?_ | refine brF ?_)); conv => whnf)
  refine ⟨_, toIntS_f w hw, ?_⟩
  ((repeat ((conv => whnf); first | refine brT ?_ | refine brF ?_)); conv => whnf)
  refine ⟨_, toIntS_f c hc, ?_⟩
  ((repeat ((conv => whnf); first | refine brT ?_ | refine brF ?_)); conv => whnf)
  refine ⟨_, rfl, rfl, rfl, ?_⟩
  exact ⟨rfl, by simp [exsW]⟩
def eqCls (a b c d : List Int) : Bool := eqList eqI a c && eqList eqI b d
theorem eqCls_refl (a b : List Int) : eqCls a b a b = true := by simp [eqCls, eqIntS_refl]
theorem eqClasses_spec (a b c d : List Int) : FSpec env.P 37 [clsLV a b, clsLV c d] (.bool (eqCls a b c d)) := by
  refine FSpec_of_code env_ok (fn := Try.f37) Try.func37 rfl Try.call37 _ _ ?_
  ((repeat' (((repeat ((conv => whnf); first | refine brT ?_ | refine brF ?_)); conv => whnf); first | (refine And.intro ?_ ?_ <;> (intro h; rw [h]; revert h; intro _)) | (refine Exists.intro true (And.intro (a := drawB _ _ = true) (by kernel_rfl) ?_)) | (refine Exists.intro _ (And.intro (eqIntS_spec a c) ?_)) | (refine Exists.intro _ (And.intro (eqIntS_spec b d) ?_)))); all_goals ((repeat ((conv => whnf); first | refine brT ?_ | refine brF ?_)); conv => whnf))
  all_goals (refine fin ?_; simp_all [eqCls, notB])
def szC (l : Int) (n m : Nat) : Int := match ltI (szN l n) 0 with | true => -1 | false => szN (szN l n) m
theorem szM_neg {l : Int} {n : Nat} (h : 0 ≤ szN l n → False) : szN l n = -1 := by
  unfold szN at h ⊢
  cases h2 : ltI (IntKind.i64.wrap (l - (n : Int))) 0 <;> rw [h2] at h <;> simp only at h ⊢
  rw [ltI_f] at h2; exact (h h2).elim
theorem szC_ok {l : Int} {n m : Nat} (h0 : 0 ≤ l) (h1 : l ≤ 1048576) (hn : n ≤ Go.maxLen) (hm : m ≤ Go.maxLen) (h : 0 ≤ szC l n m) : szC l n m = l - n - m ∧ (n : Int) + m ≤ l := by
  unfold szC at h ⊢
  cases h2 : ltI (szN l n) 0 <;> rw [h2] at h <;> simp only at h ⊢
  · rw [ltI_f] at h2
    obtain ⟨e1, e2⟩ := szN_ok h0 h1 hn h2
    rw [e1] at h ⊢
    obtain ⟨e3, e4⟩ := szN_ok (by omega) (by omega) hm h
    omega
  · omega
theorem szClasses_spec (w c : List Int) (l : Int) : FSpec env.P 32 [clsLV w c, .int .i64 l] (.int .i64 (szC l w.length c.length)) := by
  refine FSpec_of_code env_ok (fn := Try.f32) Try.func32 rfl Try.call32 _ _ ?_
  ((repeat ((conv => whnf); first | refine brT ?_ | refine brF ?_)); conv => whnf)
  refine ⟨_, szIntS_spec w l, ?_⟩
  ((repeat ((conv => whnf); first | refine brT ?_ | refine brF ?_)); conv => whnf)
  (refine ⟨fun h => ?_, fun h => ?_⟩ <;> rw [h])
  · ((repeat ((conv => whnf); first | refine brT ?_ | refine brF ?_)); conv => whnf); exact ⟨rfl, by unfold szC; rw [h], List.nodup_nil⟩
  ((repeat ((conv => whnf); first | refine brT ?_ | refine brF ?_)); conv => whnf)
  refine ⟨_, szIntS_spec c (szN l w.length), ?_⟩
  ((repeat ((conv => whnf); first | refine brT ?_ | refine brF ?_)); conv => whnf)
  (refine ⟨fun h2 => ?_, fun h2 => ?_⟩ <;> rw [h2])
  · have e : szN (szN l w.length) c.length = -1 := szM_neg fun h3 => by rw [ltI_t] at h2; omega
    ((repeat ((conv => whnf); first | refine brT ?_ | refine brF ?_)); conv => whnf); exact ⟨rfl, by unfold szC; rw [h]; exact e.symm, List.nodup_nil⟩
  · ((repeat ((conv => whnf); first | refine brT ?_ | refine brF ?_)); conv => whnf); exact ⟨rfl, by unfold szC; rw [h], List.nodup_nil⟩
theorem markClasses_spec (w c : List Int) (n m : Nat) (hn : n = (w.map intLV).length) (hm : m = (c.map intLV).length) (k : Int) (h0 : 0 ≤ k) (h1 : k + w.length + c.length ≤ 4611686018427387904) :
    HSpec env.P 38 [clsHS n m, .int .i64 k] (clsH w c) (.int .i64 (k + w.length + c.length)) [.arr 3 1 ((marks k w.length).map intLV), .arr 3 1 ((marks (k + w.length) c.length).map intLV)] := by
  unfold clsH
  refine HSpec_of_code (E := env.x [19] 2) env_ok.x (fn := Try.f38) Try.func38 rfl Try.call38 _ _ _ _ ?_
  ((repeat ((conv => whnf); first | refine brT ?_ | refine brF ?_)); conv => whnf)
  refine ⟨[0], _, _, _, _, markIntS_spec w n hn k h0 (by omega), rfl, rfl, rfl, trivial, ?_⟩
  ((repeat ((conv => whnf); first | refine brT ?_ | refine brF ?_)); conv => whnf)
  refine ⟨[1], _, _, _, _, markIntS_spec c m hm (k + w.length) (by omega) (by omega), rfl, rfl, rfl, trivial, ?_⟩
  ((repeat ((conv => whnf); first | refine brT ?_ | refine brF ?_)); conv => whnf)
  exact ⟨[.int .i64 (k + w.length + c.length)], rfl, rfl, .inl ⟨⟨rfl, trivial⟩, ⟨rfl, rfl, trivial⟩, rfl, rfl⟩⟩
def clsB (w c : List Int) : Bool := leI 1 (w.length : Int) && (leI (w.length : Int) 8 && (eqI (c.length : Int) (w.length : Int) && (permB w && permB c)))
theorem clsB_at {w c : List Int} (h : clsB w c = true) : 1 ≤ w.length ∧ w.length ≤ 8 ∧ c.length = w.length ∧ permB w = true ∧ permB c = true := by
  unfold clsB at h
  simp only [Bool.and_eq_true, leI_t, eqI_t] at h
  obtain ⟨h1, h2, h3, h4, h5⟩ := h
  exact ⟨by omega, by omega, by omega, h4, h5⟩
theorem isClasses_impl (w c : List Int) (hw : w.length ≤ 1048576) (hc : c.length ≤ 1048576) : FSpec env.P 120 [clsLV w c] (.bool (clsB w c)) := by
  refine FSpec_of_code env_ok (fn := Try.f120) Try.func120 rfl Try.call120 _ _ ?_
  have hl : ((w.map intLV).length : Int) = (w.length : Int) := by simp
  have hl2 : ((c.map intLV).length : Int) = (c.length : Int) := by simp
  unfold clsB
  ((repeat ((conv => whnf); first | refine brT ?_ | refine brF ?_)); conv => whnf)
  intro _
  ((repeat ((conv => whnf); first | refine brT ?_ | refine brF ?_)); conv => whnf)
  rw [hl]
  (refine ⟨fun h1 => ?_, fun h1 => ?_⟩ <;> rw [h1])
  rotate_left
  · ((repeat ((conv => whnf); first | refine brT ?_ | refine brF ?_)); conv => whnf); exact fin rfl
  ((repeat ((conv => whnf); first | refine brT ?_ | refine brF ?_)); conv => whnf)
  (refine ⟨fun h2 => ?_, fun h2 => ?_⟩ <;> rw [h2])
  rotate_left
  · ((repeat ((conv => whnf); first | refine brT ?_ | refine brF ?_)); conv => whnf); exact fin rfl
  ((repeat ((conv => whnf); first | refine brT ?_ | refine brF ?_)); conv => whnf)
  intro _
  ((repeat ((conv => whnf); first | refine brT ?_ | refine brF ?_)); conv => whnf)
  rw [hl2]
  (refine ⟨fun h3 => ?_, fun h3 => ?_⟩ <;> rw [h3])
  rotate_left
  · ((repeat ((conv => whnf); first | refine brT ?_ | refine brF ?_)); conv => whnf); exact fin rfl
  ((repeat ((conv => whnf); first | refine brT ?_ | refine brF ?_)); conv => whnf)
  refine ⟨_, isPerm_impl w (by omega), ?_⟩
  ((repeat ((conv => whnf); first | refine brT ?_ | refine brF ?_)); conv => whnf)
  (refine ⟨fun h4 => ?_, fun h4 => ?_⟩ <;> rw [h4])
  rotate_left
  · ((repeat ((conv => whnf); first | refine brT ?_ | refine brF ?_)); conv => whnf); exact fin rfl
  ((repeat ((conv => whnf); first | refine brT ?_ | refine brF ?_)); conv => whnf)
  refine ⟨_, isPerm_impl c (by omega), ?_⟩
  ((repeat ((conv => whnf); first | refine brT ?_ | refine brF ?_)); conv => whnf)
  exact fin rfl
theorem isClasses_spec (w c : List Int) (hw : w.length ≤ 1048576) (hc : c.length ≤ 1048576) : FSpec env.P 119 [clsLV w c] (.bool (clsB w c)) := by
  refine FSpec_of_code env_ok (fn := Try.f119) Try.func119 rfl Try.call119 _ _ ?_
  have hl : ((w.map intLV).length : Int) = (w.length : Int) := by simp
  have hl2 : ((c.map intLV).length : Int) = (c.length : Int) := by simp
  have e0 : clsB w c = ((leI 1 (w.length : Int) && leI (w.length : Int) 8) && (eqI (w.length : Int) (c.length : Int) && (permB w && permB c))) := by
    unfold clsB
    rw [show eqI (w.length : Int) (c.length : Int) = eqI (c.length : Int) (w.length : Int) by simp only [eqI_d]; exact decide_eq_decide.2 eq_comm, Bool.and_assoc]
  rw [e0]
  ((repeat ((conv => whnf); first | refine brT ?_ | refine brF ?_)); conv => whnf)
  intro _
  ((repeat ((conv => whnf); first | refine brT ?_ | refine brF ?_)); conv => whnf)
  refine ⟨_, l1In_spec _ _ _, ?_⟩
  ((repeat ((conv => whnf); first | refine brT ?_ | refine brF ?_)); conv => whnf)
  rw [hl]
  (refine ⟨fun h1 => ?_, fun h1 => ?_⟩ <;> rw [h1])
  rotate_left
  · ((repeat ((conv => whnf); first | refine brT ?_ | refine brF ?_)); conv => whnf); refine fin ?_; simp
  ((repeat ((conv => whnf); first | refine brT ?_ | refine brF ?_)); conv => whnf)
  intro _
  ((repeat ((conv => whnf); first | refine brT ?_ | refine brF ?_)); conv => whnf)
  intro _
  ((repeat ((conv => whnf); first | refine brT ?_ | refine brF ?_)); conv => whnf)
  rw [hl, hl2]
  (refine ⟨fun h3 => ?_, fun h3 => ?_⟩ <;> rw [h3])
  rotate_left
  · ((repeat ((conv => whnf); first | refine brT ?_ | refine brF ?_)); conv => whnf); refine fin ?_; simp
  ((repeat ((conv => whnf); first | refine brT ?_ | refine brF ?_)); conv => whnf)
  refine ⟨_, isPerm_spec w (by omega), ?_⟩
  ((repeat ((conv => whnf); first | refine brT ?_ | refine brF ?_)); conv => whnf)
  (refine ⟨fun h4 => ?_, fun h4 => ?_⟩ <;> rw [h4])
  rotate_left
  · ((repeat ((conv => whnf); first | refine brT ?_ | refine brF ?_)); conv => whnf); refine fin ?_; simp
  ((repeat ((conv => whnf); first | refine brT ?_ | refine brF ?_)); conv => whnf)
  refine ⟨_, isPerm_spec c (by omega), ?_⟩
  ((repeat ((conv => whnf); first | refine brT ?_ | refine brF ?_)); conv => whnf)
  refine fin ?_; simp
end Go.Proofs.Ytgkjafmmekjjlaa


namespace Go.Proofs.Ytgkjafmmekjjlaa
open Go.Lg Go.Pm
set_option maxHeartbeats 3200000
set_option maxRecDepth 10000
set_option linter.unusedVariables false
set_option linter.unusedSimpArgs false

/-! ### No class marries itself -/
end Go.Proofs.Ytgkjafmmekjjlaa


namespace Go.Proofs.Ytgkjafmmekjjlaa
open Go.Lg Go.Pm
set_option maxHeartbeats 6400000
set_option maxRecDepth 10000
set_option linter.unusedVariables false
set_option linter.unusedSimpArgs false

def shCls : Sh := .st [shInts, shInts]
theorem cls_of_sh {x : LV} (h : hasSh shCls x) : ∃ w c : List Int, x = clsLV w c ∧ w.length ≤ Go.maxLen ∧ c.length ≤ Go.maxLen := by
  unfold hasSh at h
  obtain ⟨xs, rfl, h⟩ := h
  match xs, h with
  | [a, b], h =>
    simp only [hasShs] at h
    obtain ⟨r1, rfl, h1⟩ := row_of_sh h.1
    obtain ⟨r2, rfl, h2⟩ := row_of_sh h.2.1
    exact ⟨r1, r2, rfl, h1, h2⟩
  | [], h => simp [hasShs] at h
  | [_], h => simp [hasShs] at h
  | _ :: _ :: _ :: _, h => simp [hasShs] at h
end Go.Proofs.Ytgkjafmmekjjlaa


namespace Go.Proofs.Ytgkjafmmekjjlaa
open Go.Lg
set_option maxHeartbeats 400000
set_option maxRecDepth 10000
set_option linter.unusedVariables false
set_option linter.unusedSimpArgs false

/-- spec.l1Parent, asked of a person of the family. -/
def parentAt (ps : List Per) (i q sex late born : Int) : Bool :=
  eqI q (-1) || (leI 0 q && (ltI q i && match ps[q.toNat]? with
    | none => false
    | some p => eqI p.sex sex && (ltI p.born born && (eqI p.died (-1) || leI born (IntKind.i64.wrap (p.died + late))))))
theorem l1Parent_spec (ps : List Per) (us : List Uni) (i : Nat) (hi : i < ps.length) (q sex late : Int) :
    FSpec env.P 165 [famLV ps us, .int .i64 (i : Int), .int .i64 q, .int .i64 sex, .int .i64 late] (.bool (parentAt ps i q sex late (ps[i]).born)) := by
  refine FSpec_of_code env_ok (fn := Try.f165) Try.func165 rfl Try.call165 _ _ ?_
  ((repeat ((conv => whnf); first | refine brT ?_ | refine brF ?_)); conv => whnf)
  (refine ⟨fun h => ?_, fun h => ?_⟩ <;> rw [h])
  · ((repeat ((conv => whnf); first | refine brT ?_ | refine brF ?_)); conv => whnf); refine fin ?_; simp [parentAt, h]
  ((repeat ((conv => whnf); first | refine brT ?_ | refine brF ?_)); conv => whnf)
  (refine ⟨fun h1 => ?_, fun h1 => ?_⟩ <;> rw [h1])
  · ((repeat ((conv => whnf); first | refine brT ?_ | refine brF ?_)); conv => whnf); refine fin ?_
    grind [parentAt, ltI_t, ltI_f, leI_t, leI_f, eqI_t, eqI_f]
  ((repeat ((conv => whnf); first | refine brT ?_ | refine brF ?_)); conv => whnf)
  (refine ⟨fun h2 => ?_, fun h2 => ?_⟩ <;> rw [h2])
  · ((repeat ((conv => whnf); first | refine brT ?_ | refine brF ?_)); conv => whnf); refine fin ?_
    grind [parentAt, ltI_t, ltI_f, leI_t, leI_f, eqI_t, eqI_f]
  have hq : 0 ≤ q ∧ q < i := by rw [ltI_f] at h1; rw [leI_f] at h2; omega
  have hlt : q.toNat < ps.length := by omega
  have hg : ps[q.toNat]? = some ps[q.toNat] := List.getElem?_eq_getElem hlt
  have hd : parentAt ps i q sex late (ps[i]).born = (eqI ps[q.toNat].sex sex && (ltI ps[q.toNat].born (ps[i]).born && (eqI ps[q.toNat].died (-1) || leI (ps[i]).born (IntKind.i64.wrap (ps[q.toNat].died + late))))) := by
    have e1 : leI 0 q = true := leI_t.2 hq.1
    have e2 : ltI q i = true := ltI_t.2 hq.2
    simp [parentAt, h, e1, e2, hg]
  ((repeat ((conv => whnf); first | refine brT ?_ | refine brF ?_)); conv => whnf)
  refine ⟨q.toNat, ps[q.toNat].lv, by omega, by simp [hlt], rfl, ?_⟩
  ((repeat ((conv => whnf); first | refine brT ?_ | refine brF ?_)); conv => whnf)
  (refine ⟨fun h3 => ?_, fun h3 => ?_⟩ <;> rw [h3])
  · ((repeat ((conv => whnf); first | refine brT ?_ | refine brF ?_)); conv => whnf); refine fin ?_
    rw [notB_t] at h3
    simp [hd, h3]
  rw [notB_f] at h3
  ((repeat ((conv => whnf); first | refine brT ?_ | refine brF ?_)); conv => whnf)
  refine ⟨q.toNat, ps[q.toNat].lv, by omega, by simp [hlt], rfl, ?_⟩
  ((repeat ((conv => whnf); first | refine brT ?_ | refine brF ?_)); conv => whnf)
  refine ⟨i, ps[i].lv, rfl, by simp [hi], rfl, ?_⟩
  ((repeat' (((repeat ((conv => whnf); first | refine brT ?_ | refine brF ?_)); conv => whnf); (refine And.intro ?_ ?_ <;> (intro h; rw [h]; revert h; intro _)))); all_goals ((repeat ((conv => whnf); first | refine brT ?_ | refine brF ?_)); conv => whnf))
  all_goals (refine fin ?_; simp [*])

def fresh (ps : List Per) (n : ByteArray) (k : Nat) : Bool := (ps.take k).all fun q => notB (eqS q.name n)
theorem fresh_succ {ps : List Per} {n : ByteArray} {k : Nat} (h : k < ps.length) : fresh ps n (k + 1) = (fresh ps n k && notB (eqS ps[k].name n)) := by
  unfold fresh
  rw [List.take_succ_eq_append_getElem h, List.all_append]
  simp
theorem fresh_no {ps : List Per} {n : ByteArray} {k i : Nat} (hi : k < i) (h : k < ps.length) (e : eqS ps[k].name n = true) : fresh ps n i = false := by
  unfold fresh
  rw [List.all_eq_false]
  refine ⟨ps[k], ?_, by simp [notB, e]⟩
  rw [List.mem_take_iff_getElem]
  exact ⟨k, by omega, rfl⟩

/-- spec.l1Person -/
def shapeOk (p : Per) : Bool := isName p.name && ((leI 1 p.sex && leI p.sex 2) && ((leI 0 p.born && leI p.born 9999) && (eqI p.died (-1) || (leI p.born p.died && leI p.died 9999))))
def personAt (ps : List Per) (i : Nat) (p : Per) : Bool :=
  shapeOk p && (fresh ps p.name i && (parentAt ps i p.father 1 1 p.born && parentAt ps i p.mother 2 0 p.born))
theorem l1Person_spec (ps : List Per) (us : List Uni) (i : Nat) (hi : i < ps.length) (hl : ps.length ≤ 40) : FSpec env.P 136 [famLV ps us, .int .i64 (i : Int)] (.bool (personAt ps i ps[i])) := by
  refine FSpec_of_code env_ok (fn := Try.f136) Try.func136 rfl Try.call136 _ _ ?_
  ((repeat ((conv => whnf); first | refine brT ?_ | refine brF ?_)); conv => whnf)
  refine ⟨i, ps[i].lv, rfl, by simp [hi], rfl, ?_⟩
  ((repeat' (((repeat ((conv => whnf); first | refine brT ?_ | refine brF ?_)); conv => whnf); first | (refine And.intro ?_ ?_ <;> (intro h; rw [h]; revert h; intro _)) | (refine Exists.intro true (And.intro (a := drawB _ _ = true) (by kernel_rfl) ?_)) | (refine Exists.intro _ (And.intro (isName_spec ps[i].name) ?_)) | (refine Exists.intro _ (And.intro (l1In_spec _ _ _) ?_)))); all_goals ((repeat ((conv => whnf); first | refine brT ?_ | refine brF ?_)); conv => whnf))
  all_goals first
    | (refine fin ?_; grind [personAt, shapeOk, notB_t, notB_f])
    | skip
  all_goals
    have hs : shapeOk ps[i] = true := by grind [shapeOk, notB_t, notB_f]
    refine loop_rule (α := Nat) (fun k => [(6, .int .i64 (k : Int))]) (fun k => [.box (famLV ps us), .box ps[i].lv]) (fun k => i - k) (fun k => k ≤ i ∧ fresh ps ps[i].name k = true) 0 ⟨Nat.zero_le _, rfl⟩ ?_ ?_
    · refine ⟨?_, ⟨rfl, rfl, trivial⟩, rfl, rfl⟩
      ((repeat ((conv => whnf); refine ⟨rfl, ?_⟩)); trivial)
    rintro k ⟨hk, hf⟩
    ((repeat ((conv => whnf); first | refine brT ?_ | refine brF ?_)); conv => whnf)
    (refine ⟨fun g1 => ?_, fun g1 => ?_⟩ <;> rw [g1])
    · have hlt : k < i := by rw [ltI_t] at g1; omega
      have hkl : k < ps.length := by omega
      ((repeat ((conv => whnf); first | refine brT ?_ | refine brF ?_)); conv => whnf)
      refine ⟨true, by kernel_rfl, ?_⟩
      ((repeat ((conv => whnf); first | refine brT ?_ | refine brF ?_)); conv => whnf)
      refine ⟨k, ps[k].lv, rfl, by simp [hkl], rfl, ?_⟩
      ((repeat ((conv => whnf); first | refine brT ?_ | refine brF ?_)); conv => whnf)
      (refine ⟨fun g2 => ?_, fun g2 => ?_⟩ <;> rw [g2])
      · ((repeat ((conv => whnf); first | refine brT ?_ | refine brF ?_)); conv => whnf)
        refine fin ?_
        simp [personAt, fresh_no hlt hkl g2]
      · ((repeat ((conv => whnf); first | refine brT ?_ | refine brF ?_)); conv => whnf)
        refine round_end (k + 1) ⟨hlt, by rw [fresh_succ hkl, hf, g2]; simp [notB]⟩ (by omega) ⟨?_, ⟨rfl, rfl, trivial⟩, rfl, rfl⟩
        have e := step_i hlt (by unfold Go.maxLen; omega)
        ((repeat ((conv => whnf); first | refine ⟨e, ?_⟩ | refine ⟨rfl, ?_⟩)); trivial)
    · have hki : k = i := by rw [ltI_f] at g1; omega
      subst hki
      ((repeat ((conv => whnf); first | refine brT ?_ | refine brF ?_)); conv => whnf)
      refine ⟨_, l1Parent_spec ps us k hi _ _ _, ?_⟩
      ((repeat ((conv => whnf); first | refine brT ?_ | refine brF ?_)); conv => whnf)
      (refine ⟨fun g2 => ?_, fun g2 => ?_⟩ <;> rw [g2])
      · ((repeat ((conv => whnf); first | refine brT ?_ | refine brF ?_)); conv => whnf)
        refine ⟨_, l1Parent_spec ps us k hi _ _ _, ?_⟩
        ((repeat ((conv => whnf); first | refine brT ?_ | refine brF ?_)); conv => whnf)
        refine fin ?_
        simp [personAt, hs, hf, g2]
      · ((repeat ((conv => whnf); first | refine brT ?_ | refine brF ?_)); conv => whnf)
        refine fin ?_
        simp [personAt, g2]
end Go.Proofs.Ytgkjafmmekjjlaa


namespace Go.Proofs.Ytgkjafmmekjjlaa
open Go.Lg
set_option maxHeartbeats 400000
set_option maxRecDepth 10000
set_option linter.unusedVariables false
set_option linter.unusedSimpArgs false

/-- Where a parent may stand. -/
def parIn (x : Int) (i : Nat) : Prop := x = -1 ∨ (0 ≤ x ∧ x < i)
def parsIn (ps : List Per) : Prop := ∀ (i : Nat) (h : i < ps.length), parIn ps[i].father i ∧ parIn ps[i].mother i
def dep (ds : List Int) (x : Int) : Int := match leI 0 x with | true => ds.getD x.toNat 0 + 1 | false => 0
def dep2 (ds : List Int) (p : Per) : Int := maxI (dep ds p.father) (dep ds p.mother)
def depTo (ps : List Per) : Nat → List Int
  | 0 => []
  | k + 1 => depTo ps k ++ [match ps[k]? with | some p => dep2 (depTo ps k) p | none => 0]
def depths (ps : List Per) : List Int := depTo ps ps.length
theorem depTo_len (ps : List Per) : ∀ k, (depTo ps k).length = k
  | 0 => rfl
  | k + 1 => by simp [depTo, depTo_len ps k]
theorem maxI_le {a b c : Int} (h : a ≤ c) (k : b ≤ c) : maxI a b ≤ c := by unfold maxI; split <;> omega
theorem le_maxI {a b c : Int} (h : c ≤ a) : c ≤ maxI a b := by unfold maxI; split <;> omega
theorem dep_range {ds : List Int} {n : Nat} (h : ∀ v ∈ ds, 0 ≤ v ∧ v ≤ n) (x : Int) : 0 ≤ dep ds x ∧ dep ds x ≤ n + 1 := by
  unfold dep
  split
  · rw [List.getD_eq_getElem?_getD]
    cases e : ds[x.toNat]? with
    | none => simp; omega
    | some v => have := h v (List.mem_of_getElem? e); simp; omega
  · omega
theorem depTo_range (ps : List Per) : ∀ k, ∀ v ∈ depTo ps k, 0 ≤ v ∧ v ≤ k
  | 0, v, h => by simp [depTo] at h
  | k + 1, v, h => by
    simp only [depTo, List.mem_append, List.mem_singleton] at h
    rcases h with h | rfl
    · have := depTo_range ps k v h; omega
    · split
      · rename_i p _
        have h1 := dep_range (depTo_range ps k) p.father
        have h2 := dep_range (depTo_range ps k) p.mother
        exact ⟨le_maxI h1.1, maxI_le (by omega) (by omega)⟩
      · omega
theorem depTo_succ {ps : List Per} {k : Nat} (h : k < ps.length) : depTo ps (k + 1) = depTo ps k ++ [dep2 (depTo ps k) ps[k]] := by
  simp [depTo, h]
theorem dep_some {ds : List Int} {x : Int} {i : Nat} (hl : ds.length = i) (h0 : 0 ≤ x) (h1 : x < i) : ∃ h : x.toNat < ds.length, dep ds x = ds[x.toNat] + 1 := by
  have hlt : x.toNat < ds.length := by omega
  refine ⟨hlt, ?_⟩
  unfold dep
  rw [leI_t.2 h0]
  simp [List.getD_eq_getElem?_getD, hlt]
theorem dep_none {ds : List Int} {x : Int} (h : leI 0 x = false) : dep ds x = 0 := by unfold dep; rw [h]
theorem maxI_zero {a : Int} (h : 0 ≤ a) : maxI a 0 = a := by unfold maxI; split <;> omega
theorem zero_maxI {a : Int} (h : 0 ≤ a) : maxI 0 a = a := by unfold maxI; split <;> omega

/-- spec.l1Depths -/
theorem l1Depths_spec (ps : List Per) (us : List Uni) (hl : ps.length ≤ 40) (hp : parsIn ps) : FSpec env.P 137 [famLV ps us] (.own 3 1 ((depths ps).map intLV)) := by
  refine FSpec_of_code env_ok (fn := Try.f137) Try.func137 rfl Try.call137 _ _ ?_
  ((repeat ((conv => whnf); first | refine brT ?_ | refine brF ?_)); conv => whnf)
  intro hn
  have hn' : ps.length ≤ Go.maxLen := by simpa using hn
  ((repeat ((conv => whnf); first | refine brT ?_ | refine brF ?_)); conv => whnf)
  refine loop_rule (α := Nat) (fun k => [(11, .int .i64 (k : Int)), (7, .undef), (3, .hs 1 ((depTo ps k).map intLV).length)]) (fun k => [.box (famLV ps us), .arr 3 1 ((depTo ps k).map intLV)])
    (fun k => ps.length - k) (fun k => k ≤ ps.length) 0 (Nat.zero_le _) ?_ ?_
  · refine ⟨?_, ⟨rfl, rfl, trivial⟩, rfl, rfl⟩
    ((repeat ((conv => whnf); refine ⟨rfl, ?_⟩)); trivial)
  intro k hk
  ((repeat ((conv => whnf); first | refine brT ?_ | refine brF ?_)); conv => whnf)
  (refine ⟨fun h1 => ?_, fun h1 => ?_⟩ <;> rw [h1])
  · have hlt : k < ps.length := by rw [ltI_t] at h1; simp at h1; omega
    have hps := hp k hlt
    have hdl := depTo_len ps k
    have hrg := depTo_range ps k
    have e := step_i hlt hn'
    ((repeat ((conv => whnf); first | refine brT ?_ | refine brF ?_)); conv => whnf)
    refine ⟨k, ps[k].lv, rfl, by simp [hlt], rfl, ?_⟩
    have hrow : ∀ (v : Int), v = dep2 (depTo ps k) ps[k] → ((depTo ps k).map intLV ++ [LV.int .i64 v]) = (depTo ps (k + 1)).map intLV := fun v hv => by
      rw [depTo_succ hlt, List.map_append, hv]; rfl
    have hlen : ((depTo ps (k + 1)).map intLV).length = k + 1 := by simp [depTo_len]
    -- what the append asks for, and the round's end
    have hm1 : k + 1 ≤ Go.maxLen := by unfold Go.maxLen; omega
    have hm2 : (k + 1) * 8 ≤ 140737488355328 := by omega
    ((repeat ((conv => whnf); first | refine brT ?_ | refine brF ?_)); conv => whnf)
    (refine ⟨fun f1 => ?_, fun f1 => ?_⟩ <;> rw [f1])
    · have hf0 : 0 ≤ ps[k].father := leI_t.1 f1
      have hf1 : ps[k].father < k := by rcases hps.1 with h | h <;> omega
      obtain ⟨hfl, hfd⟩ := dep_some hdl hf0 hf1
      have hfr := hrg _ (List.getElem_mem hfl)
      ((repeat ((conv => whnf); first | refine brT ?_ | refine brF ?_)); conv => whnf)
      refine ⟨rfl, rfl, ps[k].father.toNat, by omega, by simpa using hfl, ?_⟩
      ((repeat ((conv => whnf); first | refine brT ?_ | refine brF ?_)); conv => whnf)
      refine ⟨rfl, by simp, .int .i64 (depTo ps k)[ps[k].father.toNat], by simp [getP, hfl, intLV], rfl, ?_⟩
      ((repeat ((conv => whnf); first | refine brT ?_ | refine brF ?_)); conv => whnf)
      (refine ⟨fun m1 => ?_, fun m1 => ?_⟩ <;> rw [m1])
      · have hm0 : 0 ≤ ps[k].mother := leI_t.1 m1
        have hm1' : ps[k].mother < k := by rcases hps.2 with h | h <;> omega
        obtain ⟨hml, hmd⟩ := dep_some hdl hm0 hm1'
        have hmr := hrg _ (List.getElem_mem hml)
        ((repeat ((conv => whnf); first | refine brT ?_ | refine brF ?_)); conv => whnf)
        refine ⟨rfl, rfl, ps[k].mother.toNat, by omega, by simpa using hml, ?_⟩
        ((repeat ((conv => whnf); first | refine brT ?_ | refine brF ?_)); conv => whnf)
        refine ⟨rfl, by simp, .int .i64 (depTo ps k)[ps[k].mother.toNat], by simp [getP, hml, intLV], rfl, ?_⟩
        have hv := hrow (maxI (IntKind.i64.wrap ((depTo ps k)[ps[k].father.toNat] + 1)) (IntKind.i64.wrap ((depTo ps k)[ps[k].mother.toNat] + 1)))
          (by rw [wrap64 (by omega) (by omega), wrap64 (by omega) (by omega)]; unfold dep2; rw [hfd, hmd])
        ((repeat ((conv => whnf); first | refine brT ?_ | refine brF ?_)); conv => whnf)
        refine ⟨rfl, rfl, ?_, ?_, ?_⟩
        · rw [hv, hlen]; exact hm1
        · rw [hv, hlen]; exact hm2
        ((repeat ((conv => whnf); first | refine brT ?_ | refine brF ?_)); conv => whnf)
        refine round_endR [.old 0, .old 4] (k + 1) hlt (by omega) ⟨?_, ⟨rfl, rfl, rfl, congrArg (Blk.arr 3 1) hv, trivial⟩, rfl⟩
        have e3 := congrArg (fun l : List LV => LV.hs 1 l.length) hv
        repeat ((conv => whnf); first | refine ⟨rfl, e, ?_⟩ | refine ⟨rfl, e3, ?_⟩ | refine ⟨rfl, rfl, ?_⟩)
        trivial
      · have hv := hrow (IntKind.i64.wrap ((depTo ps k)[ps[k].father.toNat] + 1))
          (by rw [wrap64 (by omega) (by omega)]; unfold dep2; rw [hfd, dep_none m1, maxI_zero (by omega)])
        ((repeat ((conv => whnf); first | refine brT ?_ | refine brF ?_)); conv => whnf)
        refine ⟨rfl, rfl, ?_, ?_, ?_⟩
        · rw [hv, hlen]; exact hm1
        · rw [hv, hlen]; exact hm2
        ((repeat ((conv => whnf); first | refine brT ?_ | refine brF ?_)); conv => whnf)
        refine round_endR [.old 0, .old 4] (k + 1) hlt (by omega) ⟨?_, ⟨rfl, rfl, rfl, congrArg (Blk.arr 3 1) hv, trivial⟩, rfl⟩
        have e3 := congrArg (fun l : List LV => LV.hs 1 l.length) hv
        repeat ((conv => whnf); first | refine ⟨rfl, e, ?_⟩ | refine ⟨rfl, e3, ?_⟩ | refine ⟨rfl, rfl, ?_⟩)
        trivial
    · ((repeat ((conv => whnf); first | refine brT ?_ | refine brF ?_)); conv => whnf)
      (refine ⟨fun m1 => ?_, fun m1 => ?_⟩ <;> rw [m1])
      · have hm0 : 0 ≤ ps[k].mother := leI_t.1 m1
        have hm1' : ps[k].mother < k := by rcases hps.2 with h | h <;> omega
        obtain ⟨hml, hmd⟩ := dep_some hdl hm0 hm1'
        have hmr := hrg _ (List.getElem_mem hml)
        ((repeat ((conv => whnf); first | refine brT ?_ | refine brF ?_)); conv => whnf)
        refine ⟨rfl, rfl, ps[k].mother.toNat, by omega, by simpa using hml, ?_⟩
        ((repeat ((conv => whnf); first | refine brT ?_ | refine brF ?_)); conv => whnf)
        refine ⟨rfl, by simp, .int .i64 (depTo ps k)[ps[k].mother.toNat], by simp [getP, hml, intLV], rfl, ?_⟩
        have hv := hrow (maxI 0 (IntKind.i64.wrap ((depTo ps k)[ps[k].mother.toNat] + 1)))
          (by rw [wrap64 (by omega) (by omega)]; unfold dep2; rw [hmd, dep_none f1])
        ((repeat ((conv => whnf); first | refine brT ?_ | refine brF ?_)); conv => whnf)
        refine ⟨rfl, rfl, ?_, ?_, ?_⟩
        · rw [hv, hlen]; exact hm1
        · rw [hv, hlen]; exact hm2
        ((repeat ((conv => whnf); first | refine brT ?_ | refine brF ?_)); conv => whnf)
        refine round_endR [.old 0, .old 4] (k + 1) hlt (by omega) ⟨?_, ⟨rfl, rfl, rfl, congrArg (Blk.arr 3 1) hv, trivial⟩, rfl⟩
        have e3 := congrArg (fun l : List LV => LV.hs 1 l.length) hv
        repeat ((conv => whnf); first | refine ⟨rfl, e, ?_⟩ | refine ⟨rfl, e3, ?_⟩ | refine ⟨rfl, rfl, ?_⟩)
        trivial
      · have hv := hrow 0 (by unfold dep2; rw [dep_none m1, dep_none f1]; rw [maxI_zero (by omega)])
        ((repeat ((conv => whnf); first | refine brT ?_ | refine brF ?_)); conv => whnf)
        refine ⟨rfl, rfl, ?_, ?_, ?_⟩
        · rw [hv, hlen]; exact hm1
        · rw [hv, hlen]; exact hm2
        ((repeat ((conv => whnf); first | refine brT ?_ | refine brF ?_)); conv => whnf)
        refine round_endR [.old 0, .old 4] (k + 1) hlt (by omega) ⟨?_, ⟨rfl, rfl, rfl, congrArg (Blk.arr 3 1) hv, trivial⟩, rfl⟩
        have e3 := congrArg (fun l : List LV => LV.hs 1 l.length) hv
        repeat ((conv => whnf); first | refine ⟨rfl, e, ?_⟩ | refine ⟨rfl, e3, ?_⟩ | refine ⟨rfl, rfl, ?_⟩)
        trivial
  · have h3 : k = ps.length := by rw [ltI_f] at h1; simp at h1; omega
    subst h3
    ((repeat ((conv => whnf); first | refine brT ?_ | refine brF ?_)); conv => whnf)
    exact ⟨rfl, rfl, rfl, rfl, by simp⟩
end Go.Proofs.Ytgkjafmmekjjlaa


namespace Go.Proofs.Ytgkjafmmekjjlaa
open Go.Lg
set_option maxHeartbeats 400000
set_option maxRecDepth 10000
set_option linter.unusedVariables false
set_option linter.unusedSimpArgs false

def rowD (ds : List Int) (v : Int) (m : Nat) : List LV := (ds ++ v :: List.replicate m 0).map intLV
theorem rowD_len (ds : List Int) (v : Int) (m : Nat) : (rowD ds v m).length = ds.length + 1 + m := by simp [rowD]; omega
theorem rowD_at (ds : List Int) (v : Int) (m : Nat) : getP (.st (rowD ds v m)) [ds.length] = some (.int .i64 v) := by
  simp [rowD, getP, intLV]
theorem rowD_lt {ds : List Int} {v : Int} {m i : Nat} (h : i < ds.length) : getP (.st (rowD ds v m)) [i] = some (.int .i64 ds[i]) := by
  have : (rowD ds v m)[i]? = some (.int .i64 ds[i]) := by
    unfold rowD
    rw [List.getElem?_map, List.getElem?_append_left h, List.getElem?_eq_getElem h]
    rfl
  simp [getP, this]
theorem rowD_set (ds : List Int) (v u : Int) (m : Nat) : (match (rowD ds v m)[ds.length]? with | some z => (rowD ds v m).set ds.length (setP z [] (.int .i64 u)) | none => rowD ds v m) = rowD ds u m := by
  have : (rowD ds v m)[ds.length]? = some (.int .i64 v) := by simp [rowD, intLV]
  rw [this]
  simp only [setP, rowD, List.map_append, List.map_cons]
  rw [List.set_append_right _ _ (by simp)]
  simp [intLV]

def rowK (ps : List Per) (k : Nat) : List LV := (depTo ps k ++ List.replicate (ps.length - k) 0).map intLV
theorem rowK_lt {ps : List Per} {k : Nat} (h : k < ps.length) : rowK ps k = rowD (depTo ps k) 0 (ps.length - k - 1) := by
  unfold rowK rowD
  rw [show ps.length - k = (ps.length - k - 1) + 1 by omega, List.replicate_succ]
  simp
theorem rowK_succ {ps : List Per} {k : Nat} (h : k < ps.length) : rowD (depTo ps k) (dep2 (depTo ps k) ps[k]) (ps.length - k - 1) = rowK ps (k + 1) := by
  unfold rowK rowD
  rw [depTo_succ h, show ps.length - (k + 1) = ps.length - k - 1 by omega]
  simp
theorem rowK_len (ps : List Per) {k : Nat} (h : k ≤ ps.length) : (rowK ps k).length = ps.length := by
  unfold rowK
  simp [depTo_len]; omega

def accD (ds : List Int) (xs : List Int) : Int := xs.foldl (fun a x => maxI a (dep ds x)) 0
theorem accD_known {ds : List Int} {p : Per} {k : Nat} (hr : ∀ v ∈ ds, 0 ≤ v ∧ v ≤ k) (hf : parIn p.father k) (hm : parIn p.mother k) : accD ds (known p) = dep2 ds p := by
  have e1 := dep_range hr p.father
  have e2 := dep_range hr p.mother
  unfold known dep2 accD
  have hn : ∀ x, notNone x = false → dep ds x = 0 := fun x h => by
    unfold notNone at h
    rw [notB_f, eqI_t] at h
    exact dep_none (by rw [leI_f]; omega)
  simp only [List.filter]
  cases h1 : notNone p.father <;> cases h2 : notNone p.mother <;> simp only [List.foldl]
  · rw [hn _ h1, hn _ h2, maxI_zero (by omega)]
  · rw [hn _ h1]
  · rw [hn _ h2, zero_maxI e1.1, maxI_zero e1.1]
  · rw [zero_maxI e1.1]
theorem known_in {p : Per} {k : Nat} (hf : parIn p.father k) (hm : parIn p.mother k) : ∀ x ∈ known p, 0 ≤ x ∧ x < k := by
  intro x hx
  simp only [known, List.mem_filter, List.mem_cons, List.not_mem_nil, or_false] at hx
  obtain ⟨h1, h2⟩ := hx
  unfold notNone at h2
  rw [notB_t, eqI_f] at h2
  rcases h1 with rfl | rfl
  · rcases hf with h | h <;> omega
  · rcases hm with h | h <;> omega
theorem accD_succ {ds xs : List Int} {j : Nat} (h : j < xs.length) : accD ds (xs.take (j + 1)) = maxI (accD ds (xs.take j)) (dep ds xs[j]) := by
  unfold accD
  rw [List.take_succ_eq_append_getElem h, List.foldl_append]
  rfl
/-- impl.depthsOf -/
theorem depthsOf_spec (ps : List Per) (hl : ps.length ≤ 40) (hp : parsIn ps) : FSpec env.P 133 [.sl (ps.map Per.lv)] (.own 3 1 ((depths ps).map intLV)) := by
  refine FSpec_of_code env_ok (fn := Try.f133) Try.func133 rfl Try.call133 _ _ ?_
  ((repeat ((conv => whnf); first | refine brT ?_ | refine brF ?_)); conv => whnf)
  intro hn
  have hn' : ps.length ≤ Go.maxLen := by simpa using hn
  ((repeat ((conv => whnf); first | refine brT ?_ | refine brF ?_)); conv => whnf)
  refine ⟨ps.length, by simp, by simp, by (show 8 * ps.length ≤ 281474976710656); omega, hn', rfl, by decide, ?_⟩
  ((repeat ((conv => whnf); first | refine brT ?_ | refine brF ?_)); conv => whnf)
  intro _
  ((repeat ((conv => whnf); first | refine brT ?_ | refine brF ?_)); conv => whnf)
  refine loop_rule (α := Nat) (fun k => [(13, .int .i64 (k : Int)), (3, .hs 0 (rowK ps k).length)]) (fun k => [.arr 3 1 (rowK ps k)])
    (fun k => ps.length - k) (fun k => k ≤ ps.length) 0 (Nat.zero_le _) ?_ ?_
  · have e0 : List.replicate ps.length (LV.int .i64 0) = rowK ps 0 := by simp [rowK, depTo, intLV]
    have e1 : LV.hs 0 ps.length = LV.hs 0 (rowK ps 0).length := by rw [rowK_len ps (Nat.zero_le _)]
    refine ⟨?_, ⟨congrArg (Blk.arr 3 1) e0, trivial⟩, rfl, rfl⟩
    ((repeat ((conv => whnf); first | refine ⟨e1, ?_⟩ | refine ⟨rfl, ?_⟩)); trivial)
  intro k hk
  ((repeat ((conv => whnf); first | refine brT ?_ | refine brF ?_)); conv => whnf)
  (refine ⟨fun h1 => ?_, fun h1 => ?_⟩ <;> rw [h1])
  · have hlt : k < ps.length := by rw [ltI_t] at h1; simp at h1; omega
    have hps := hp k hlt
    have hdl := depTo_len ps k
    have hrg := depTo_range ps k
    have e := step_i hlt hn'
    ((repeat ((conv => whnf); first | refine brT ?_ | refine brF ?_)); conv => whnf)
    refine ⟨k, ps[k].lv, rfl, by simp [hlt], rfl, ?_⟩
    ((repeat ((conv => whnf); first | refine brT ?_ | refine brF ?_)); conv => whnf)
    refine ⟨_, knownParents_spec ps[k], ?_⟩
    ((repeat ((conv => whnf); first | refine brT ?_ | refine brF ?_)); conv => whnf)
    intro hkn
    ((repeat ((conv => whnf); first | refine brT ?_ | refine brF ?_)); conv => whnf)
    have hkl : (known ps[k]).length ≤ Go.maxLen := by simpa using hkn
    refine loop_rule (α := Nat) (fun j => [(21, .int .i64 (j : Int)), (3, .hs 0 (rowD (depTo ps k) (accD (depTo ps k) ((known ps[k]).take j)) (ps.length - k - 1)).length)])
      (fun j => [.arr 3 1 (rowD (depTo ps k) (accD (depTo ps k) ((known ps[k]).take j)) (ps.length - k - 1)), .box ps[k].lv])
      (fun j => (known ps[k]).length - j) (fun j => j ≤ (known ps[k]).length) 0 (Nat.zero_le _) ?_ ?_
    · have e0 : rowK ps k = rowD (depTo ps k) (accD (depTo ps k) ((known ps[k]).take 0)) (ps.length - k - 1) := rowK_lt hlt
      have e1 := congrArg (fun l : List LV => LV.hs 0 l.length) e0
      refine ⟨?_, ⟨congrArg (Blk.arr 3 1) e0, rfl, trivial⟩, rfl, rfl⟩
      ((repeat ((conv => whnf); first | refine ⟨e1, ?_⟩ | refine ⟨rfl, ?_⟩)); trivial)
    intro j hj
    ((repeat ((conv => whnf); first | refine brT ?_ | refine brF ?_)); conv => whnf)
    (refine ⟨fun g1 => ?_, fun g1 => ?_⟩ <;> rw [g1])
    · have hjl : j < (known ps[k]).length := by rw [ltI_t] at g1; simp at g1; omega
      have hx := known_in hps.1 hps.2 _ (List.getElem_mem hjl)
      obtain ⟨hxl, hxd⟩ := dep_some hdl hx.1 hx.2
      have hxr := hrg _ (List.getElem_mem hxl)
      have he := step_i hjl hkl
      have hat : ∀ (v : Int) (m : Nat), getP (.st (rowD (depTo ps k) v m)) [k] = some (.int .i64 v) := fun v m => by have := rowD_at (depTo ps k) v m; rw [hdl] at this; exact this
      have hlen := rowD_len (depTo ps k) (accD (depTo ps k) ((known ps[k]).take j)) (ps.length - k - 1)
      ((repeat ((conv => whnf); first | refine brT ?_ | refine brF ?_)); conv => whnf)
      refine ⟨j, .int .i64 (known ps[k])[j], rfl, by simp [hjl, intLV], rfl, ?_⟩
      ((repeat ((conv => whnf); first | refine brT ?_ | refine brF ?_)); conv => whnf)
      refine ⟨true, by kernel_rfl, ?_⟩
      ((repeat ((conv => whnf); first | refine brT ?_ | refine brF ?_)); conv => whnf)
      refine ⟨rfl, rfl, k, rfl, by omega, ?_⟩
      ((repeat ((conv => whnf); first | refine brT ?_ | refine brF ?_)); conv => whnf)
      refine ⟨rfl, by simp, _, hat _ _, rfl, ?_⟩
      ((repeat ((conv => whnf); first | refine brT ?_ | refine brF ?_)); conv => whnf)
      refine ⟨rfl, rfl, (known ps[k])[j].toNat, by omega, by omega, ?_⟩
      ((repeat ((conv => whnf); first | refine brT ?_ | refine brF ?_)); conv => whnf)
      refine ⟨rfl, by simp, _, rowD_lt hxl, rfl, ?_⟩
      ((repeat ((conv => whnf); first | refine brT ?_ | refine brF ?_)); conv => whnf)
      refine ⟨rfl, rfl, k, rfl, by omega, ?_⟩
      ((repeat ((conv => whnf); first | refine brT ?_ | refine brF ?_)); conv => whnf)
      refine ⟨rfl, k, [], .int .i64 (accD (depTo ps k) ((known ps[k]).take j)), rfl, hat _ _, rfl, rfl, rfl, _, rfl, ?_⟩
      ((repeat ((conv => whnf); first | refine brT ?_ | refine brF ?_)); conv => whnf)
      have e2 : (match (rowD (depTo ps k) (accD (depTo ps k) ((known ps[k]).take j)) (ps.length - k - 1))[k]? with
          | some z => (rowD (depTo ps k) (accD (depTo ps k) ((known ps[k]).take j)) (ps.length - k - 1)).set k (setP z [] (.int .i64 (maxI (accD (depTo ps k) ((known ps[k]).take j)) (IntKind.i64.wrap ((depTo ps k)[(known ps[k])[j].toNat] + 1)))))
          | none => rowD (depTo ps k) (accD (depTo ps k) ((known ps[k]).take j)) (ps.length - k - 1)) = rowD (depTo ps k) (accD (depTo ps k) ((known ps[k]).take (j + 1))) (ps.length - k - 1) := by
        rw [accD_succ hjl, hxd, wrap64 (by omega) (by omega)]
        have := rowD_set (depTo ps k) (accD (depTo ps k) ((known ps[k]).take j)) (maxI (accD (depTo ps k) ((known ps[k]).take j)) ((depTo ps k)[(known ps[k])[j].toNat] + 1)) (ps.length - k - 1)
        rw [hdl] at this
        exact this
      have e3 : LV.hs 0 (rowD (depTo ps k) (accD (depTo ps k) ((known ps[k]).take j)) (ps.length - k - 1)).length = LV.hs 0 (rowD (depTo ps k) (accD (depTo ps k) ((known ps[k]).take (j + 1))) (ps.length - k - 1)).length := by rw [rowD_len, rowD_len]
      refine round_end (j + 1) hjl (by omega) ⟨?_, ⟨congrArg (Blk.arr 3 1) e2, rfl, trivial⟩, rfl, rfl⟩
      repeat ((conv => whnf); first | refine ⟨he, ?_⟩ | refine ⟨e3, ?_⟩ | refine ⟨rfl, ?_⟩)
      trivial
    · have hj3 : j = (known ps[k]).length := by rw [ltI_f] at g1; simp at g1; omega
      subst hj3
      have e2 : rowD (depTo ps k) (accD (depTo ps k) ((known ps[k]).take (known ps[k]).length)) (ps.length - k - 1) = rowK ps (k + 1) := by
        rw [List.take_length, accD_known hrg hps.1 hps.2]
        exact rowK_succ hlt
      have e3 := congrArg (fun l : List LV => LV.hs 0 l.length) e2
      ((repeat ((conv => whnf); first | refine brT ?_ | refine brF ?_)); conv => whnf)
      refine round_end (k + 1) hlt (by omega) ⟨?_, ⟨congrArg (Blk.arr 3 1) e2, trivial⟩, rfl, rfl⟩
      repeat ((conv => whnf); first | refine ⟨e, ?_⟩ | refine ⟨e3, ?_⟩ | refine ⟨rfl, ?_⟩)
      trivial
  · have h3 : k = ps.length := by rw [ltI_f] at h1; simp at h1; omega
    subst h3
    ((repeat ((conv => whnf); first | refine brT ?_ | refine brF ?_)); conv => whnf)
    exact ⟨rfl, rfl, rfl, by simp [rowK, depths], by simp⟩
end Go.Proofs.Ytgkjafmmekjjlaa

