/- Contracts of functions of the program and of its model, told over readings. -/
import Derived.Test.YtfdjeflnjciloaaU2
namespace Go.Proofs.Ytfdjeflnjciloaa
open Go.Lg
set_option maxHeartbeats 400000
set_option maxRecDepth 10000
set_option linter.unusedVariables false
set_option linter.unusedSimpArgs false

/-- Where a parent may stand. -/
def parIn (x : Int) (i : Nat) : Prop := x = -1 ∨ (0 ≤ x ∧ x < i)
def parsIn (ps : List Per) : Prop := ∀ (i : Nat) (h : i < ps.length), parIn ps[i].father i ∧ parIn ps[i].mother i
def dep (ds : List Int) (x : Int) : Int := match leI 0 x with | true => ds.getD x.toNat 0 + 1 | false => 0
def dep2 (ds : List Int) (p : Per) : Int := maxI (dep ds p.father) (dep ds p.mother)
def depTo (ps : List Per) : Nat → List Int
  | 0 => []
  | k + 1 => depTo ps k ++ [match ps[k]? with | some p => dep2 (depTo ps k) p | none => 0]
def depths (ps : List Per) : List Int := depTo ps ps.length
theorem depTo_len (ps : List Per) : ∀ k, (depTo ps k).length = k
  | 0 => rfl
  | k + 1 => by simp [depTo, depTo_len ps k]
theorem maxI_le {a b c : Int} (h : a ≤ c) (k : b ≤ c) : maxI a b ≤ c := by unfold maxI; split <;> omega
theorem le_maxI {a b c : Int} (h : c ≤ a) : c ≤ maxI a b := by unfold maxI; split <;> omega
theorem dep_range {ds : List Int} {n : Nat} (h : ∀ v ∈ ds, 0 ≤ v ∧ v ≤ n) (x : Int) : 0 ≤ dep ds x ∧ dep ds x ≤ n + 1 := by
  unfold dep
  split
  · rw [List.getD_eq_getElem?_getD]
    cases e : ds[x.toNat]? with
    | none => simp; omega
    | some v => have := h v (List.mem_of_getElem? e); simp; omega
  · omega
theorem depTo_range (ps : List Per) : ∀ k, ∀ v ∈ depTo ps k, 0 ≤ v ∧ v ≤ k
  | 0, v, h => by simp [depTo] at h
  | k + 1, v, h => by
    simp only [depTo, List.mem_append, List.mem_singleton] at h
    rcases h with h | rfl
    · have := depTo_range ps k v h; omega
    · split
      · rename_i p _
        have h1 := dep_range (depTo_range ps k) p.father
        have h2 := dep_range (depTo_range ps k) p.mother
        exact ⟨le_maxI h1.1, maxI_le (by omega) (by omega)⟩
      · omega
theorem depTo_succ {ps : List Per} {k : Nat} (h : k < ps.length) : depTo ps (k + 1) = depTo ps k ++ [dep2 (depTo ps k) ps[k]] := by
  simp [depTo, h]
theorem dep_some {ds : List Int} {x : Int} {i : Nat} (hl : ds.length = i) (h0 : 0 ≤ x) (h1 : x < i) : ∃ h : x.toNat < ds.length, dep ds x = ds[x.toNat] + 1 := by
  have hlt : x.toNat < ds.length := by omega
  refine ⟨hlt, ?_⟩
  unfold dep
  rw [leI_t.2 h0]
  simp [List.getD_eq_getElem?_getD, hlt]
theorem dep_none {ds : List Int} {x : Int} (h : leI 0 x = false) : dep ds x = 0 := by unfold dep; rw [h]
theorem maxI_zero {a : Int} (h : 0 ≤ a) : maxI a 0 = a := by unfold maxI; split <;> omega
theorem zero_maxI {a : Int} (h : 0 ≤ a) : maxI 0 a = a := by unfold maxI; split <;> omega

/-- spec.l1Depths -/
theorem l1Depths_spec (ps : List Per) (us : List Uni) (hl : ps.length ≤ 40) (hp : parsIn ps) : FSpec env.P 182 [famLV ps us] (.own 3 1 ((depths ps).map intLV)) := by
  refine FSpec_of_code env_ok (fn := Try.f182) Try.func182 rfl Try.call182 _ _ ?_
  ((repeat ((conv => whnf); first | refine brT ?_ | refine brF ?_)); conv => whnf)
  intro hn
  have hn' : ps.length ≤ Go.maxLen := by simpa using hn
  ((repeat ((conv => whnf); first | refine brT ?_ | refine brF ?_)); conv => whnf)
  refine loop_rule (α := Nat) (fun k => [(11, .int .i64 (k : Int)), (7, .undef), (3, .hs 1 ((depTo ps k).map intLV).length)]) (fun k => [.box (famLV ps us), .arr 3 1 ((depTo ps k).map intLV)])
    (fun k => ps.length - k) (fun k => k ≤ ps.length) 0 (Nat.zero_le _) ?_ ?_
  · refine ⟨?_, ⟨rfl, rfl, trivial⟩, rfl, rfl⟩
    ((repeat ((conv => whnf); refine ⟨rfl, ?_⟩)); trivial)
  intro k hk
  ((repeat ((conv => whnf); first | refine brT ?_ | refine brF ?_)); conv => whnf)
  (refine ⟨fun h1 => ?_, fun h1 => ?_⟩ <;> rw [h1])
  · have hlt : k < ps.length := by rw [ltI_t] at h1; simp at h1; omega
    have hps := hp k hlt
    have hdl := depTo_len ps k
    have hrg := depTo_range ps k
    have e := step_i hlt hn'
    ((repeat ((conv => whnf); first | refine brT ?_ | refine brF ?_)); conv => whnf)
    refine ⟨k, ps[k].lv, rfl, by simp [hlt], rfl, ?_⟩
    have hrow : ∀ (v : Int), v = dep2 (depTo ps k) ps[k] → ((depTo ps k).map intLV ++ [LV.int .i64 v]) = (depTo ps (k + 1)).map intLV := fun v hv => by
      rw [depTo_succ hlt, List.map_append, hv]; rfl
    have hlen : ((depTo ps (k + 1)).map intLV).length = k + 1 := by simp [depTo_len]
    -- what the append asks for, and the round's end
    have hm1 : k + 1 ≤ Go.maxLen := by unfold Go.maxLen; omega
    have hm2 : (k + 1) * 8 ≤ 140737488355328 := by omega
    ((repeat ((conv => whnf); first | refine brT ?_ | refine brF ?_)); conv => whnf)
    (refine ⟨fun f1 => ?_, fun f1 => ?_⟩ <;> rw [f1])
    · have hf0 : 0 ≤ ps[k].father := leI_t.1 f1
      have hf1 : ps[k].father < k := by rcases hps.1 with h | h <;> omega
      obtain ⟨hfl, hfd⟩ := dep_some hdl hf0 hf1
      have hfr := hrg _ (List.getElem_mem hfl)
      ((repeat ((conv => whnf); first | refine brT ?_ | refine brF ?_)); conv => whnf)
      refine ⟨rfl, rfl, ps[k].father.toNat, by omega, by simpa using hfl, ?_⟩
      ((repeat ((conv => whnf); first | refine brT ?_ | refine brF ?_)); conv => whnf)
      refine ⟨rfl, by simp, .int .i64 (depTo ps k)[ps[k].father.toNat], by simp [getP, hfl, intLV], rfl, ?_⟩
      ((repeat ((conv => whnf); first | refine brT ?_ | refine brF ?_)); conv => whnf)
      (refine ⟨fun m1 => ?_, fun m1 => ?_⟩ <;> rw [m1])
      · have hm0 : 0 ≤ ps[k].mother := leI_t.1 m1
        have hm1' : ps[k].mother < k := by rcases hps.2 with h | h <;> omega
        obtain ⟨hml, hmd⟩ := dep_some hdl hm0 hm1'
        have hmr := hrg _ (List.getElem_mem hml)
        ((repeat ((conv => whnf); first | refine brT ?_ | refine brF ?_)); conv => whnf)
        refine ⟨rfl, rfl, ps[k].mother.toNat, by omega, by simpa using hml, ?_⟩
        ((repeat ((conv => whnf); first | refine brT ?_ | refine brF ?_)); conv => whnf)
        refine ⟨rfl, by simp, .int .i64 (depTo ps k)[ps[k].mother.toNat], by simp [getP, hml, intLV], rfl, ?_⟩
        have hv := hrow (maxI (IntKind.i64.wrap ((depTo ps k)[ps[k].father.toNat] + 1)) (IntKind.i64.wrap ((depTo ps k)[ps[k].mother.toNat] + 1)))
          (by rw [wrap64 (by omega) (by omega), wrap64 (by omega) (by omega)]; unfold dep2; rw [hfd, hmd])
        ((repeat ((conv => whnf); first | refine brT ?_ | refine brF ?_)); conv => whnf)
        refine ⟨rfl, rfl, ?_, ?_, ?_⟩
        · rw [hv, hlen]; exact hm1
        · rw [hv, hlen]; exact hm2
        ((repeat ((conv => whnf); first | refine brT ?_ | refine brF ?_)); conv => whnf)
        refine round_endR [.old 0, .old 4] (k + 1) hlt (by omega) ⟨?_, ⟨rfl, rfl, rfl, congrArg (Blk.arr 3 1) hv, trivial⟩, rfl⟩
        have e3 := congrArg (fun l : List LV => LV.hs 1 l.length) hv
        repeat ((conv => whnf); first | refine ⟨rfl, e, ?_⟩ | refine ⟨rfl, e3, ?_⟩ | refine ⟨rfl, rfl, ?_⟩)
        trivial
      · have hv := hrow (IntKind.i64.wrap ((depTo ps k)[ps[k].father.toNat] + 1))
          (by rw [wrap64 (by omega) (by omega)]; unfold dep2; rw [hfd, dep_none m1, maxI_zero (by omega)])
        ((repeat ((conv => whnf); first | refine brT ?_ | refine brF ?_)); conv => whnf)
        refine ⟨rfl, rfl, ?_, ?_, ?_⟩
        · rw [hv, hlen]; exact hm1
        · rw [hv, hlen]; exact hm2
        ((repeat ((conv => whnf); first | refine brT ?_ | refine brF ?_)); conv => whnf)
        refine round_endR [.old 0, .old 4] (k + 1) hlt (by omega) ⟨?_, ⟨rfl, rfl, rfl, congrArg (Blk.arr 3 1) hv, trivial⟩, rfl⟩
        have e3 := congrArg (fun l : List LV => LV.hs 1 l.length) hv
        repeat ((conv => whnf); first | refine ⟨rfl, e, ?_⟩ | refine ⟨rfl, e3, ?_⟩ | refine ⟨rfl, rfl, ?_⟩)
        trivial
    · ((repeat ((conv => whnf); first | refine brT ?_ | refine brF ?_)); conv => whnf)
      (refine ⟨fun m1 => ?_, fun m1 => ?_⟩ <;> rw [m1])
      · have hm0 : 0 ≤ ps[k].mother := leI_t.1 m1
        have hm1' : ps[k].mother < k := by rcases hps.2 with h | h <;> omega
        obtain ⟨hml, hmd⟩ := dep_some hdl hm0 hm1'
        have hmr := hrg _ (List.getElem_mem hml)
        ((repeat ((conv => whnf); first | refine brT ?_ | refine brF ?_)); conv => whnf)
        refine ⟨rfl, rfl, ps[k].mother.toNat, by omega, by simpa using hml, ?_⟩
        ((repeat ((conv => whnf); first | refine brT ?_ | refine brF ?_)); conv => whnf)
        refine ⟨rfl, by simp, .int .i64 (depTo ps k)[ps[k].mother.toNat], by simp [getP, hml, intLV], rfl, ?_⟩
        have hv := hrow (maxI 0 (IntKind.i64.wrap ((depTo ps k)[ps[k].mother.toNat] + 1)))
          (by rw [wrap64 (by omega) (by omega)]; unfold dep2; rw [hmd, dep_none f1])
        ((repeat ((conv => whnf); first | refine brT ?_ | refine brF ?_)); conv => whnf)
        refine ⟨rfl, rfl, ?_, ?_, ?_⟩
        · rw [hv, hlen]; exact hm1
        · rw [hv, hlen]; exact hm2
        ((repeat ((conv => whnf); first | refine brT ?_ | refine brF ?_)); conv => whnf)
        refine round_endR [.old 0, .old 4] (k + 1) hlt (by omega) ⟨?_, ⟨rfl, rfl, rfl, congrArg (Blk.arr 3 1) hv, trivial⟩, rfl⟩
        have e3 := congrArg (fun l : List LV => LV.hs 1 l.length) hv
        repeat ((conv => whnf); first | refine ⟨rfl, e, ?_⟩ | refine ⟨rfl, e3, ?_⟩ | refine ⟨rfl, rfl, ?_⟩)
        trivial
      · have hv := hrow 0 (by unfold dep2; rw [dep_none m1, dep_none f1]; rw [maxI_zero (by omega)])
        ((repeat ((conv => whnf); first | refine brT ?_ | refine brF ?_)); conv => whnf)
        refine ⟨rfl, rfl, ?_, ?_, ?_⟩
        · rw [hv, hlen]; exact hm1
        · rw [hv, hlen]; exact hm2
        ((repeat ((conv => whnf); first | refine brT ?_ | refine brF ?_)); conv => whnf)
        refine round_endR [.old 0, .old 4] (k + 1) hlt (by omega) ⟨?_, ⟨rfl, rfl, rfl, congrArg (Blk.arr 3 1) hv, trivial⟩, rfl⟩
        have e3 := congrArg (fun l : List LV => LV.hs 1 l.length) hv
        repeat ((conv => whnf); first | refine ⟨rfl, e, ?_⟩ | refine ⟨rfl, e3, ?_⟩ | refine ⟨rfl, rfl, ?_⟩)
        trivial
  · have h3 : k = ps.length := by rw [ltI_f] at h1; simp at h1; omega
    subst h3
    ((repeat ((conv => whnf); first | refine brT ?_ | refine brF ?_)); conv => whnf)
    exact ⟨rfl, rfl, rfl, rfl, by simp⟩
end Go.Proofs.Ytfdjeflnjciloaa
