/- Contracts of functions of the program and of its model, told over readings. -/
import Derived.Test.YtbiagkccgijdlaaEWGA
import Derived.Test.YtbiagkccgijdlaaELgWS
namespace Go.Proofs.Ytbiagkccgijdlaa
open Go.Lg
set_option maxHeartbeats 1600000
set_option maxRecDepth 10000
set_option linter.unusedVariables false
set_option linter.unusedSimpArgs false

end Go.Proofs.Ytbiagkccgijdlaa

namespace Go.Proofs.Ytbiagkccgijdlaa
open Go.Lg Go.Pm
set_option maxHeartbeats 3200000
set_option maxRecDepth 10000
set_option linter.unusedVariables false
set_option linter.unusedSimpArgs false

/-! ### Classes -/
end Go.Proofs.Ytbiagkccgijdlaa

namespace Go.Proofs.Ytbiagkccgijdlaa
open Go.Lg Go.Pm
set_option maxHeartbeats 3200000
set_option maxRecDepth 10000
set_option linter.unusedVariables false
set_option linter.unusedSimpArgs false

/-! ### No class marries itself -/
end Go.Proofs.Ytbiagkccgijdlaa


namespace Go.Proofs.Ytbiagkccgijdlaa
open Go.Lg Go.Pm
set_option maxHeartbeats 6400000
set_option maxRecDepth 10000
set_option linter.unusedVariables false
set_option linter.unusedSimpArgs false

end Go.Proofs.Ytbiagkccgijdlaa


namespace Go.Proofs.Ytbiagkccgijdlaa
open Go.Lg
set_option maxHeartbeats 400000
set_option maxRecDepth 10000
set_option linter.unusedVariables false
set_option linter.unusedSimpArgs false

/-- spec.l1Parent, asked of a person of the family. -/
def parentAt (ps : List Per) (i q sex late born : Int) : Bool :=
  eqI q (-1) || (leI 0 q && (ltI q i && match ps[q.toNat]? with
    | none => false
    | some p => eqI p.sex sex && (ltI p.born born && (eqI p.died (-1) || leI born (IntKind.i64.wrap (p.died + late))))))
theorem l1Parent_spec (ps : List Per) (us : List Uni) (i : Nat) (hi : i < ps.length) (q sex late : Int) :
    FSpec env.P 144 [famLV ps us, .int .i64 (i : Int), .int .i64 q, .int .i64 sex, .int .i64 late] (.bool (parentAt ps i q sex late (ps[i]).born)) := by
  refine FSpec_of_code env_ok (fn := Try.f144) Try.func144 rfl Try.call144 _ _ ?_
  ((repeat ((conv => whnf); first | refine brT ?_ | refine brF ?_)); conv => whnf)
  (refine ⟨fun h => ?_, fun h => ?_⟩ <;> rw [h])
  · ((repeat ((conv => whnf); first | refine brT ?_ | refine brF ?_)); conv => whnf); refine fin ?_; simp [parentAt, h]
  ((repeat ((conv => whnf); first | refine brT ?_ | refine brF ?_)); conv => whnf)
  (refine ⟨fun h1 => ?_, fun h1 => ?_⟩ <;> rw [h1])
  · ((repeat ((conv => whnf); first | refine brT ?_ | refine brF ?_)); conv => whnf); refine fin ?_
    grind [parentAt, ltI_t, ltI_f, leI_t, leI_f, eqI_t, eqI_f]
  ((repeat ((conv => whnf); first | refine brT ?_ | refine brF ?_)); conv => whnf)
  (refine ⟨fun h2 => ?_, fun h2 => ?_⟩ <;> rw [h2])
  · ((repeat ((conv => whnf); first | refine brT ?_ | refine brF ?_)); conv => whnf); refine fin ?_
    grind [parentAt, ltI_t, ltI_f, leI_t, leI_f, eqI_t, eqI_f]
  have hq : 0 ≤ q ∧ q < i := by rw [ltI_f] at h1; rw [leI_f] at h2; omega
  have hlt : q.toNat < ps.length := by omega
  have hg : ps[q.toNat]? = some ps[q.toNat] := List.getElem?_eq_getElem hlt
  have hd : parentAt ps i q sex late (ps[i]).born = (eqI ps[q.toNat].sex sex && (ltI ps[q.toNat].born (ps[i]).born && (eqI ps[q.toNat].died (-1) || leI (ps[i]).born (IntKind.i64.wrap (ps[q.toNat].died + late))))) := by
    have e1 : leI 0 q = true := leI_t.2 hq.1
    have e2 : ltI q i = true := ltI_t.2 hq.2
    simp [parentAt, h, e1, e2, hg]
  ((repeat ((conv => whnf); first | refine brT ?_ | refine brF ?_)); conv => whnf)
  refine ⟨q.toNat, ps[q.toNat].lv, by omega, by simp [hlt], rfl, ?_⟩
  ((repeat ((conv => whnf); first | refine brT ?_ | refine brF ?_)); conv => whnf)
  (refine ⟨fun h3 => ?_, fun h3 => ?_⟩ <;> rw [h3])
  · ((repeat ((conv => whnf); first | refine brT ?_ | refine brF ?_)); conv => whnf); refine fin ?_
    rw [notB_t] at h3
    simp [hd, h3]
  rw [notB_f] at h3
  ((repeat ((conv => whnf); first | refine brT ?_ | refine brF ?_)); conv => whnf)
  refine ⟨q.toNat, ps[q.toNat].lv, by omega, by simp [hlt], rfl, ?_⟩
  ((repeat ((conv => whnf); first | refine brT ?_ | refine brF ?_)); conv => whnf)
  refine ⟨i, ps[i].lv, rfl, by simp [hi], rfl, ?_⟩
  ((repeat' (((repeat ((conv => whnf); first | refine brT ?_ | refine brF ?_)); conv => whnf); (refine And.intro ?_ ?_ <;> (intro h; rw [h]; revert h; intro _)))); all_goals ((repeat ((conv => whnf); first | refine brT ?_ | refine brF ?_)); conv => whnf))
  all_goals (refine fin ?_; simp [*])

def fresh (ps : List Per) (n : ByteArray) (k : Nat) : Bool := (ps.take k).all fun q => notB (eqS q.name n)
theorem fresh_succ {ps : List Per} {n : ByteArray} {k : Nat} (h : k < ps.length) : fresh ps n (k + 1) = (fresh ps n k && notB (eqS ps[k].name n)) := by
  unfold fresh
  rw [List.take_succ_eq_append_getElem h, List.all_append]
  simp
theorem fresh_no {ps : List Per} {n : ByteArray} {k i : Nat} (hi : k < i) (h : k < ps.length) (e : eqS ps[k].name n = true) : fresh ps n i = false := by
  unfold fresh
  rw [List.all_eq_false]
  refine ⟨ps[k], ?_, by simp [notB, e]⟩
  rw [List.mem_take_iff_getElem]
  exact ⟨k, by omega, rfl⟩

/-- spec.l1Person -/
def shapeOk (p : Per) : Bool := isName p.name && ((leI 1 p.sex && leI p.sex 2) && ((leI 0 p.born && leI p.born 9999) && (eqI p.died (-1) || (leI p.born p.died && leI p.died 9999))))
def personAt (ps : List Per) (i : Nat) (p : Per) : Bool :=
  shapeOk p && (fresh ps p.name i && (parentAt ps i p.father 1 1 p.born && parentAt ps i p.mother 2 0 p.born))
theorem l1Person_spec (ps : List Per) (us : List Uni) (i : Nat) (hi : i < ps.length) (hl : ps.length ≤ 40) : FSpec env.P 122 [famLV ps us, .int .i64 (i : Int)] (.bool (personAt ps i ps[i])) := by
  refine FSpec_of_code env_ok (fn := Try.f122) Try.func122 rfl Try.call122 _ _ ?_
  ((repeat ((conv => whnf); first | refine brT ?_ | refine brF ?_)); conv => whnf)
  refine ⟨i, ps[i].lv, rfl, by simp [hi], rfl, ?_⟩
  ((repeat' (((repeat ((conv => whnf); first | refine brT ?_ | refine brF ?_)); conv => whnf); first | (refine And.intro ?_ ?_ <;> (intro h; rw [h]; revert h; intro _)) | (refine Exists.intro true (And.intro (a := drawB _ _ = true) (by kernel_rfl) ?_)) | (refine Exists.intro _ (And.intro (isName_spec ps[i].name) ?_)) | (refine Exists.intro _ (And.intro (l1In_spec _ _ _) ?_)))); all_goals ((repeat ((conv => whnf); first | refine brT ?_ | refine brF ?_)); conv => whnf))
  all_goals first
    | (refine fin ?_; grind [personAt, shapeOk, notB_t, notB_f])
    | skip
  all_goals
    have hs : shapeOk ps[i] = true := by grind [shapeOk, notB_t, notB_f]
    refine loop_rule (α := Nat) (fun k => [(6, .int .i64 (k : Int))]) (fun k => [.box (famLV ps us), .box ps[i].lv]) (fun k => i - k) (fun k => k ≤ i ∧ fresh ps ps[i].name k = true) 0 ⟨Nat.zero_le _, rfl⟩ ?_ ?_
    · refine ⟨?_, ⟨rfl, rfl, trivial⟩, rfl, rfl⟩
      ((repeat ((conv => whnf); refine ⟨rfl, ?_⟩)); trivial)
    rintro k ⟨hk, hf⟩
    ((repeat ((conv => whnf); first | refine brT ?_ | refine brF ?_)); conv => whnf)
    (refine ⟨fun g1 => ?_, fun g1 => ?_⟩ <;> rw [g1])
    · have hlt : k < i := by rw [ltI_t] at g1; omega
      have hkl : k < ps.length := by omega
      ((repeat ((conv => whnf); first | refine brT ?_ | refine brF ?_)); conv => whnf)
      refine ⟨true, by kernel_rfl, ?_⟩
      ((repeat ((conv => whnf); first | refine brT ?_ | refine brF ?_)); conv => whnf)
      refine ⟨k, ps[k].lv, rfl, by simp [hkl], rfl, ?_⟩
      ((repeat ((conv => whnf); first | refine brT ?_ | refine brF ?_)); conv => whnf)
      (refine ⟨fun g2 => ?_, fun g2 => ?_⟩ <;> rw [g2])
      · ((repeat ((conv => whnf); first | refine brT ?_ | refine brF ?_)); conv => whnf)
        refine fin ?_
        simp [personAt, fresh_no hlt hkl g2]
      · ((repeat ((conv => whnf); first | refine brT ?_ | refine brF ?_)); conv => whnf)
        refine round_end (k + 1) ⟨hlt, by rw [fresh_succ hkl, hf, g2]; simp [notB]⟩ (by omega) ⟨?_, ⟨rfl, rfl, trivial⟩, rfl, rfl⟩
        have e := step_i hlt (by unfold Go.maxLen; omega)
        ((repeat ((conv => whnf); first | refine ⟨e, ?_⟩ | refine ⟨rfl, ?_⟩)); trivial)
    · have hki : k = i := by rw [ltI_f] at g1; omega
      subst hki
      ((repeat ((conv => whnf); first | refine brT ?_ | refine brF ?_)); conv => whnf)
      refine ⟨_, l1Parent_spec ps us k hi _ _ _, ?_⟩
      ((repeat ((conv => whnf); first | refine brT ?_ | refine brF ?_)); conv => whnf)
      (refine ⟨fun g2 => ?_, fun g2 => ?_⟩ <;> rw [g2])
      · ((repeat ((conv => whnf); first | refine brT ?_ | refine brF ?_)); conv => whnf)
        refine ⟨_, l1Parent_spec ps us k hi _ _ _, ?_⟩
        ((repeat ((conv => whnf); first | refine brT ?_ | refine brF ?_)); conv => whnf)
        refine fin ?_
        simp [personAt, hs, hf, g2]
      · ((repeat ((conv => whnf); first | refine brT ?_ | refine brF ?_)); conv => whnf)
        refine fin ?_
        simp [personAt, g2]
end Go.Proofs.Ytbiagkccgijdlaa


namespace Go.Proofs.Ytbiagkccgijdlaa
open Go.Lg
set_option maxHeartbeats 400000
set_option maxRecDepth 10000
set_option linter.unusedVariables false
set_option linter.unusedSimpArgs false

/-- Where a parent may stand. -/
def parIn (x : Int) (i : Nat) : Prop := x = -1 ∨ (0 ≤ x ∧ x < i)
def parsIn (ps : List Per) : Prop := ∀ (i : Nat) (h : i < ps.length), parIn ps[i].father i ∧ parIn ps[i].mother i
def dep (ds : List Int) (x : Int) : Int := match leI 0 x with | true => ds.getD x.toNat 0 + 1 | false => 0
def dep2 (ds : List Int) (p : Per) : Int := maxI (dep ds p.father) (dep ds p.mother)
def depTo (ps : List Per) : Nat → List Int
  | 0 => []
  | k + 1 => depTo ps k ++ [match ps[k]? with | some p => dep2 (depTo ps k) p | none => 0]
def depths (ps : List Per) : List Int := depTo ps ps.length
theorem depTo_len (ps : List Per) : ∀ k, (depTo ps k).length = k
  | 0 => rfl
  | k + 1 => by simp [depTo, depTo_len ps k]
theorem maxI_le {a b c : Int} (h : a ≤ c) (k : b ≤ c) : maxI a b ≤ c := by unfold maxI; split <;> omega
theorem le_maxI {a b c : Int} (h : c ≤ a) : c ≤ maxI a b := by unfold maxI; split <;> omega
theorem dep_range {ds : List Int} {n : Nat} (h : ∀ v ∈ ds, 0 ≤ v ∧ v ≤ n) (x : Int) : 0 ≤ dep ds x ∧ dep ds x ≤ n + 1 := by
  unfold dep
  split
  · rw [List.getD_eq_getElem?_getD]
    cases e : ds[x.toNat]? with
    | none => simp; omega
    | some v => have := h v (List.mem_of_getElem? e); simp; omega
  · omega
theorem depTo_range (ps : List Per) : ∀ k, ∀ v ∈ depTo ps k, 0 ≤ v ∧ v ≤ k
  | 0, v, h => by simp [depTo] at h
  | k + 1, v, h => by
    simp only [depTo, List.mem_append, List.mem_singleton] at h
    rcases h with h | rfl
    · have := depTo_range ps k v h; omega
    · split
      · rename_i p _
        have h1 := dep_range (depTo_range ps k) p.father
        have h2 := dep_range (depTo_range ps k) p.mother
        exact ⟨le_maxI h1.1, maxI_le (by omega) (by omega)⟩
      · omega
theorem depTo_succ {ps : List Per} {k : Nat} (h : k < ps.length) : depTo ps (k + 1) = depTo ps k ++ [dep2 (depTo ps k) ps[k]] := by
  simp [depTo, h]
theorem dep_some {ds : List Int} {x : Int} {i : Nat} (hl : ds.length = i) (h0 : 0 ≤ x) (h1 : x < i) : ∃ h : x.toNat < ds.length, dep ds x = ds[x.toNat] + 1 := by
  have hlt : x.toNat < ds.length := by omega
  refine ⟨hlt, ?_⟩
  unfold dep
  rw [leI_t.2 h0]
  simp [List.getD_eq_getElem?_getD, hlt]
theorem dep_none {ds : List Int} {x : Int} (h : leI 0 x = false) : dep ds x = 0 := by unfold dep; rw [h]
theorem maxI_zero {a : Int} (h : 0 ≤ a) : maxI a 0 = a := by unfold maxI; split <;> omega
theorem zero_maxI {a : Int} (h : 0 ≤ a) : maxI 0 a = a := by unfold maxI; split <;> omega

/-- spec.l1Depths -/
theorem l1Depths_spec (ps : List Per) (us : List Uni) (hl : ps.length ≤ 40) (hp : parsIn ps) : FSpec env.P 123 [famLV ps us] (.own 3 1 ((depths ps).map intLV)) := by
  refine FSpec_of_code env_ok (fn := Try.f123) Try.func123 rfl Try.call123 _ _ ?_
  ((repeat ((conv => whnf); first | refine brT ?_ | refine brF ?_)); conv => whnf)
  intro hn
  have hn' : ps.length ≤ Go.maxLen := by simpa using hn
  ((repeat ((conv => whnf); first | refine brT ?_ | refine brF ?_)); conv => whnf)
  refine loop_rule (α := Nat) (fun k => [(11, .int .i64 (k : Int)), (7, .undef), (3, .hs 1 ((depTo ps k).map intLV).length)]) (fun k => [.box (famLV ps us), .arr 3 1 ((depTo ps k).map intLV)])
    (fun k => ps.length - k) (fun k => k ≤ ps.length) 0 (Nat.zero_le _) ?_ ?_
  · refine ⟨?_, ⟨rfl, rfl, trivial⟩, rfl, rfl⟩
    ((repeat ((conv => whnf); refine ⟨rfl, ?_⟩)); trivial)
  intro k hk
  ((repeat ((conv => whnf); first | refine brT ?_ | refine brF ?_)); conv => whnf)
  (refine ⟨fun h1 => ?_, fun h1 => ?_⟩ <;> rw [h1])
  · have hlt : k < ps.length := by rw [ltI_t] at h1; simp at h1; omega
    have hps := hp k hlt
    have hdl := depTo_len ps k
    have hrg := depTo_range ps k
    have e := step_i hlt hn'
    ((repeat ((conv => whnf); first | refine brT ?_ | refine brF ?_)); conv => whnf)
    refine ⟨k, ps[k].lv, rfl, by simp [hlt], rfl, ?_⟩
    have hrow : ∀ (v : Int), v = dep2 (depTo ps k) ps[k] → ((depTo ps k).map intLV ++ [LV.int .i64 v]) = (depTo ps (k + 1)).map intLV := fun v hv => by
      rw [depTo_succ hlt, List.map_append, hv]; rfl
    have hlen : ((depTo ps (k + 1)).map intLV).length = k + 1 := by simp [depTo_len]
    -- what the append asks for, and the round's end
    have hm1 : k + 1 ≤ Go.maxLen := by unfold Go.maxLen; omega
    have hm2 : (k + 1) * 8 ≤ 140737488355328 := by omega
    ((repeat ((conv => whnf); first | refine brT ?_ | refine brF ?_)); conv => whnf)
    (refine ⟨fun f1 => ?_, fun f1 => ?_⟩ <;> rw [f1])
    · have hf0 : 0 ≤ ps[k].father := leI_t.1 f1
      have hf1 : ps[k].father < k := by rcases hps.1 with h | h <;> omega
      obtain ⟨hfl, hfd⟩ := dep_some hdl hf0 hf1
      have hfr := hrg _ (List.getElem_mem hfl)
      ((repeat ((conv => whnf); first | refine brT ?_ | refine brF ?_)); conv => whnf)
      refine ⟨rfl, rfl, ps[k].father.toNat, by omega, by simpa using hfl, ?_⟩
      ((repeat ((conv => whnf); first | refine brT ?_ | refine brF ?_)); conv => whnf)
      refine ⟨rfl, by simp, .int .i64 (depTo ps k)[ps[k].father.toNat], by simp [getP, hfl, intLV], rfl, ?_⟩
      ((repeat ((conv => whnf); first | refine brT ?_ | refine brF ?_)); conv => whnf)
      (refine ⟨fun m1 => ?_, fun m1 => ?_⟩ <;> rw [m1])
      · have hm0 : 0 ≤ ps[k].mother := leI_t.1 m1
        have hm1' : ps[k].mother < k := by rcases hps.2 with h | h <;> omega
        obtain ⟨hml, hmd⟩ := dep_some hdl hm0 hm1'
        have hmr := hrg _ (List.getElem_mem hml)
        ((repeat ((conv => whnf); first | refine brT ?_ | refine brF ?_)); conv => whnf)
        refine ⟨rfl, rfl, ps[k].mother.toNat, by omega, by simpa using hml, ?_⟩
        ((repeat ((conv => whnf); first | refine brT ?_ | refine brF ?_)); conv => whnf)
        refine ⟨rfl, by simp, .int .i64 (depTo ps k)[ps[k].mother.toNat], by simp [getP, hml, intLV], rfl, ?_⟩
        have hv := hrow (maxI (IntKind.i64.wrap ((depTo ps k)[ps[k].father.toNat] + 1)) (IntKind.i64.wrap ((depTo ps k)[ps[k].mother.toNat] + 1)))
          (by rw [wrap64 (by omega) (by omega), wrap64 (by omega) (by omega)]; unfold dep2; rw [hfd, hmd])
        ((repeat ((conv => whnf); first | refine brT ?_ | refine brF ?_)); conv => whnf)
        refine ⟨rfl, rfl, ?_, ?_, ?_⟩
        · rw [hv, hlen]; exact hm1
        · rw [hv, hlen]; exact hm2
        ((repeat ((conv => whnf); first | refine brT ?_ | refine brF ?_)); conv => whnf)
        refine round_endR [.old 0, .old 4] (k + 1) hlt (by omega) ⟨?_, ⟨rfl, rfl, rfl, congrArg (Blk.arr 3 1) hv, trivial⟩, rfl⟩
        have e3 := congrArg (fun l : List LV => LV.hs 1 l.length) hv
        repeat ((conv => whnf); first | refine ⟨rfl, e, ?_⟩ | refine ⟨rfl, e3, ?_⟩ | refine ⟨rfl, rfl, ?_⟩)
        trivial
      · have hv := hrow (IntKind.i64.wrap ((depTo ps k)[ps[k].father.toNat] + 1))
          (by rw [wrap64 (by omega) (by omega)]; unfold dep2; rw [hfd, dep_none m1, maxI_zero (by omega)])
        ((repeat ((conv => whnf); first | refine brT ?_ | refine brF ?_)); conv => whnf)
        refine ⟨rfl, rfl, ?_, ?_, ?_⟩
        · rw [hv, hlen]; exact hm1
        · rw [hv, hlen]; exact hm2
        ((repeat ((conv => whnf); first | refine brT ?_ | refine brF ?_)); conv => whnf)
        refine round_endR [.old 0, .old 4] (k + 1) hlt (by omega) ⟨?_, ⟨rfl, rfl, rfl, congrArg (Blk.arr 3 1) hv, trivial⟩, rfl⟩
        have e3 := congrArg (fun l : List LV => LV.hs 1 l.length) hv
        repeat ((conv => whnf); first | refine ⟨rfl, e, ?_⟩ | refine ⟨rfl, e3, ?_⟩ | refine ⟨rfl, rfl, ?_⟩)
        trivial
    · ((repeat ((conv => whnf); first | refine brT ?_ | refine brF ?_)); conv => whnf)
      (refine ⟨fun m1 => ?_, fun m1 => ?_⟩ <;> rw [m1])
      · have hm0 : 0 ≤ ps[k].mother := leI_t.1 m1
        have hm1' : ps[k].mother < k := by rcases hps.2 with h | h <;> omega
        obtain ⟨hml, hmd⟩ := dep_some hdl hm0 hm1'
        have hmr := hrg _ (List.getElem_mem hml)
        ((repeat ((conv => whnf); first | refine brT ?_ | refine brF ?_)); conv => whnf)
        refine ⟨rfl, rfl, ps[k].mother.toNat, by omega, by simpa using hml, ?_⟩
        ((repeat ((conv => whnf); first | refine brT ?_ | refine brF ?_)); conv => whnf)
        refine ⟨rfl, by simp, .int .i64 (depTo ps k)[ps[k].mother.toNat], by simp [getP, hml, intLV], rfl, ?_⟩
        have hv := hrow (maxI 0 (IntKind.i64.wrap ((depTo ps k)[ps[k].mother.toNat] + 1)))
          (by rw [wrap64 (by omega) (by omega)]; unfold dep2; rw [hmd, dep_none f1])
        ((repeat ((conv => whnf); first | refine brT ?_ | refine brF ?_)); conv => whnf)
        refine ⟨rfl, rfl, ?_, ?_, ?_⟩
        · rw [hv, hlen]; exact hm1
        · rw [hv, hlen]; exact hm2
        ((repeat ((conv => whnf); first | refine brT ?_ | refine brF ?_)); conv => whnf)
        refine round_endR [.old 0, .old 4] (k + 1) hlt (by omega) ⟨?_, ⟨rfl, rfl, rfl, congrArg (Blk.arr 3 1) hv, trivial⟩, rfl⟩
        have e3 := congrArg (fun l : List LV => LV.hs 1 l.length) hv
        repeat ((conv => whnf); first | refine ⟨rfl, e, ?_⟩ | refine ⟨rfl, e3, ?_⟩ | refine ⟨rfl, rfl, ?_⟩)
        trivial
      · have hv := hrow 0 (by unfold dep2; rw [dep_none m1, dep_none f1]; rw [maxI_zero (by omega)])
        ((repeat ((conv => whnf); first | refine brT ?_ | refine brF ?_)); conv => whnf)
        refine ⟨rfl, rfl, ?_, ?_, ?_⟩
        · rw [hv, hlen]; exact hm1
        · rw [hv, hlen]; exact hm2
        ((repeat ((conv => whnf); first | refine brT ?_ | refine brF ?_)); conv => whnf)
        refine round_endR [.old 0, .old 4] (k + 1) hlt (by omega) ⟨?_, ⟨rfl, rfl, rfl, congrArg (Blk.arr 3 1) hv, trivial⟩, rfl⟩
        have e3 := congrArg (fun l : List LV => LV.hs 1 l.length) hv
        repeat ((conv => whnf); first | refine ⟨rfl, e, ?_⟩ | refine ⟨rfl, e3, ?_⟩ | refine ⟨rfl, rfl, ?_⟩)
        trivial
  · have h3 : k = ps.length := by rw [ltI_f] at h1; simp at h1; omega
    subst h3
    ((repeat ((conv => whnf); first | refine brT ?_ | refine brF ?_)); conv => whnf)
    exact ⟨rfl, rfl, rfl, rfl, by simp⟩
end Go.Proofs.Ytbiagkccgijdlaa


namespace Go.Proofs.Ytbiagkccgijdlaa
open Go.Lg
set_option maxHeartbeats 400000
set_option maxRecDepth 10000
set_option linter.unusedVariables false
set_option linter.unusedSimpArgs false

def rowD (ds : List Int) (v : Int) (m : Nat) : List LV := (ds ++ v :: List.replicate m 0).map intLV
theorem rowD_len (ds : List Int) (v : Int) (m : Nat) : (rowD ds v m).length = ds.length + 1 + m := by simp [rowD]; omega
theorem rowD_at (ds : List Int) (v : Int) (m : Nat) : getP (.st (rowD ds v m)) [ds.length] = some (.int .i64 v) := by
  simp [rowD, getP, intLV]
theorem rowD_lt {ds : List Int} {v : Int} {m i : Nat} (h : i < ds.length) : getP (.st (rowD ds v m)) [i] = some (.int .i64 ds[i]) := by
  have : (rowD ds v m)[i]? = some (.int .i64 ds[i]) := by
    unfold rowD
    rw [List.getElem?_map, List.getElem?_append_left h, List.getElem?_eq_getElem h]
    rfl
  simp [getP, this]
theorem rowD_set (ds : List Int) (v u : Int) (m : Nat) : (match (rowD ds v m)[ds.length]? with | some z => (rowD ds v m).set ds.length (setP z [] (.int .i64 u)) | none => rowD ds v m) = rowD ds u m := by
  have : (rowD ds v m)[ds.length]? = some (.int .i64 v) := by simp [rowD, intLV]
  rw [this]
  simp only [setP, rowD, List.map_append, List.map_cons]
  rw [List.set_append_right _ _ (by simp)]
  simp [intLV]

def rowK (ps : List Per) (k : Nat) : List LV := (depTo ps k ++ List.replicate (ps.length - k) 0).map intLV
theorem rowK_lt {ps : List Per} {k : Nat} (h : k < ps.length) : rowK ps k = rowD (depTo ps k) 0 (ps.length - k - 1) := by
  unfold rowK rowD
  rw [show ps.length - k = (ps.length - k - 1) + 1 by omega, List.replicate_succ]
  simp
theorem rowK_succ {ps : List Per} {k : Nat} (h : k < ps.length) : rowD (depTo ps k) (dep2 (depTo ps k) ps[k]) (ps.length - k - 1) = rowK ps (k + 1) := by
  unfold rowK rowD
  rw [depTo_succ h, show ps.length - (k + 1) = ps.length - k - 1 by omega]
  simp
theorem rowK_len (ps : List Per) {k : Nat} (h : k ≤ ps.length) : (rowK ps k).length = ps.length := by
  unfold rowK
  simp [depTo_len]; omega

def accD (ds : List Int) (xs : List Int) : Int := xs.foldl (fun a x => maxI a (dep ds x)) 0
theorem accD_known {ds : List Int} {p : Per} {k : Nat} (hr : ∀ v ∈ ds, 0 ≤ v ∧ v ≤ k) (hf : parIn p.father k) (hm : parIn p.mother k) : accD ds (known p) = dep2 ds p := by
  have e1 := dep_range hr p.father
  have e2 := dep_range hr p.mother
  unfold known dep2 accD
  have hn : ∀ x, notNone x = false → dep ds x = 0 := fun x h => by
    unfold notNone at h
    rw [notB_f, eqI_t] at h
    exact dep_none (by rw [leI_f]; omega)
  simp only [List.filter]
  cases h1 : notNone p.father <;> cases h2 : notNone p.mother <;> simp only [List.foldl]
  · rw [hn _ h1, hn _ h2, maxI_zero (by omega)]
  · rw [hn _ h1]
  · rw [hn _ h2, zero_maxI e1.1, maxI_zero e1.1]
  · rw [zero_maxI e1.1]
theorem known_in {p : Per} {k : Nat} (hf : parIn p.father k) (hm : parIn p.mother k) : ∀ x ∈ known p, 0 ≤ x ∧ x < k := by
  intro x hx
  simp only [known, List.mem_filter, List.mem_cons, List.not_mem_nil, or_false] at hx
  obtain ⟨h1, h2⟩ := hx
  unfold notNone at h2
  rw [notB_t, eqI_f] at h2
  rcases h1 with rfl | rfl
  · rcases hf with h | h <;> omega
  · rcases hm with h | h <;> omega
theorem accD_succ {ds xs : List Int} {j : Nat} (h : j < xs.length) : accD ds (xs.take (j + 1)) = maxI (accD ds (xs.take j)) (dep ds xs[j]) := by
  unfold accD
  rw [List.take_succ_eq_append_getElem h, List.foldl_append]
  rfl
/-- impl.depthsOf -/
theorem depthsOf_spec (ps : List Per) (hl : ps.length ≤ 40) (hp : parsIn ps) : FSpec env.P 118 [.sl (ps.map Per.lv)] (.own 3 1 ((depths ps).map intLV)) := by
  refine FSpec_of_code env_ok (fn := Try.f118) Try.func118 rfl Try.call118 _ _ ?_
  ((repeat ((conv => whnf); first | refine brT ?_ | refine brF ?_)); conv => whnf)
  intro hn
  have hn' : ps.length ≤ Go.maxLen := by simpa using hn
  ((repeat ((conv => whnf); first | refine brT ?_ | refine brF ?_)); conv => whnf)
  refine ⟨ps.length, by simp, by simp, by (show 8 * ps.length ≤ 281474976710656); omega, hn', rfl, by decide, ?_⟩
  ((repeat ((conv => whnf); first | refine brT ?_ | refine brF ?_)); conv => whnf)
  intro _
  ((repeat ((conv => whnf); first | refine brT ?_ | refine brF ?_)); conv => whnf)
  refine loop_rule (α := Nat) (fun k => [(13, .int .i64 (k : Int)), (3, .hs 0 (rowK ps k).length)]) (fun k => [.arr 3 1 (rowK ps k)])
    (fun k => ps.length - k) (fun k => k ≤ ps.length) 0 (Nat.zero_le _) ?_ ?_
  · have e0 : List.replicate ps.length (LV.int .i64 0) = rowK ps 0 := by simp [rowK, depTo, intLV]
    have e1 : LV.hs 0 ps.length = LV.hs 0 (rowK ps 0).length := by rw [rowK_len ps (Nat.zero_le _)]
    refine ⟨?_, ⟨congrArg (Blk.arr 3 1) e0, trivial⟩, rfl, rfl⟩
    ((repeat ((conv => whnf); first | refine ⟨e1, ?_⟩ | refine ⟨rfl, ?_⟩)); trivial)
  intro k hk
  ((repeat ((conv => whnf); first | refine brT ?_ | refine brF ?_)); conv => whnf)
  (refine ⟨fun h1 => ?_, fun h1 => ?_⟩ <;> rw [h1])
  · have hlt : k < ps.length := by rw [ltI_t] at h1; simp at h1; omega
    have hps := hp k hlt
    have hdl := depTo_len ps k
    have hrg := depTo_range ps k
    have e := step_i hlt hn'
    ((repeat ((conv => whnf); first | refine brT ?_ | refine brF ?_)); conv => whnf)
    refine ⟨k, ps[k].lv, rfl, by simp [hlt], rfl, ?_⟩
    ((repeat ((conv => whnf); first | refine brT ?_ | refine brF ?_)); conv => whnf)
    refine ⟨_, knownParents_spec ps[k], ?_⟩
    ((repeat ((conv => whnf); first | refine brT ?_ | refine brF ?_)); conv => whnf)
    intro hkn
    ((repeat ((conv => whnf); first | refine brT ?_ | refine brF ?_)); conv => whnf)
    have hkl : (known ps[k]).length ≤ Go.maxLen := by simpa using hkn
    refine loop_rule (α := Nat) (fun j => [(21, .int .i64 (j : Int)), (3, .hs 0 (rowD (depTo ps k) (accD (depTo ps k) ((known ps[k]).take j)) (ps.length - k - 1)).length)])
      (fun j => [.arr 3 1 (rowD (depTo ps k) (accD (depTo ps k) ((known ps[k]).take j)) (ps.length - k - 1)), .box ps[k].lv])
      (fun j => (known ps[k]).length - j) (fun j => j ≤ (known ps[k]).length) 0 (Nat.zero_le _) ?_ ?_
    · have e0 : rowK ps k = rowD (depTo ps k) (accD (depTo ps k) ((known ps[k]).take 0)) (ps.length - k - 1) := rowK_lt hlt
      have e1 := congrArg (fun l : List LV => LV.hs 0 l.length) e0
      refine ⟨?_, ⟨congrArg (Blk.arr 3 1) e0, rfl, trivial⟩, rfl, rfl⟩
      ((repeat ((conv => whnf); first | refine ⟨e1, ?_⟩ | refine ⟨rfl, ?_⟩)); trivial)
    intro j hj
    ((repeat ((conv => whnf); first | refine brT ?_ | refine brF ?_)); conv => whnf)
    (refine ⟨fun g1 => ?_, fun g1 => ?_⟩ <;> rw [g1])
    · have hjl : j < (known ps[k]).length := by rw [ltI_t] at g1; simp at g1; omega
      have hx := known_in hps.1 hps.2 _ (List.getElem_mem hjl)
      obtain ⟨hxl, hxd⟩ := dep_some hdl hx.1 hx.2
      have hxr := hrg _ (List.getElem_mem hxl)
      have he := step_i hjl hkl
      have hat : ∀ (v : Int) (m : Nat), getP (.st (rowD (depTo ps k) v m)) [k] = some (.int .i64 v) := fun v m => by have := rowD_at (depTo ps k) v m; rw [hdl] at this; exact this
      have hlen := rowD_len (depTo ps k) (accD (depTo ps k) ((known ps[k]).take j)) (ps.length - k - 1)
      ((repeat ((conv => whnf); first | refine brT ?_ | refine brF ?_)); conv => whnf)
      refine ⟨j, .int .i64 (known ps[k])[j], rfl, by simp [hjl, intLV], rfl, ?_⟩
      ((repeat ((conv => whnf); first | refine brT ?_ | refine brF ?_)); conv => whnf)
      refine ⟨true, by kernel_rfl, ?_⟩
      ((repeat ((conv => whnf); first | refine brT ?_ | refine brF ?_)); conv => whnf)
      refine ⟨rfl, rfl, k, rfl, by omega, ?_⟩
      ((repeat ((conv => whnf); first | refine brT ?_ | refine brF ?_)); conv => whnf)
      refine ⟨rfl, by simp, _, hat _ _, rfl, ?_⟩
      ((repeat ((conv => whnf); first | refine brT ?_ | refine brF ?_)); conv => whnf)
      refine ⟨rfl, rfl, (known ps[k])[j].toNat, by omega, by omega, ?_⟩
      ((repeat ((conv => whnf); first | refine brT ?_ | refine brF ?_)); conv => whnf)
      refine ⟨rfl, by simp, _, rowD_lt hxl, rfl, ?_⟩
      ((repeat ((conv => whnf); first | refine brT ?_ | refine brF ?_)); conv => whnf)
      refine ⟨rfl, rfl, k, rfl, by omega, ?_⟩
      ((repeat ((conv => whnf); first | refine brT ?_ | refine brF ?_)); conv => whnf)
      refine ⟨rfl, k, [], .int .i64 (accD (depTo ps k) ((known ps[k]).take j)), rfl, hat _ _, rfl, rfl, rfl, _, rfl, ?_⟩
      ((repeat ((conv => whnf); first | refine brT ?_ | refine brF ?_)); conv => whnf)
      have e2 : (match (rowD (depTo ps k) (accD (depTo ps k) ((known ps[k]).take j)) (ps.length - k - 1))[k]? with
          | some z => (rowD (depTo ps k) (accD (depTo ps k) ((known ps[k]).take j)) (ps.length - k - 1)).set k (setP z [] (.int .i64 (maxI (accD (depTo ps k) ((known ps[k]).take j)) (IntKind.i64.wrap ((depTo ps k)[(known ps[k])[j].toNat] + 1)))))
          | none => rowD (depTo ps k) (accD (depTo ps k) ((known ps[k]).take j)) (ps.length - k - 1)) = rowD (depTo ps k) (accD (depTo ps k) ((known ps[k]).take (j + 1))) (ps.length - k - 1) := by
        rw [accD_succ hjl, hxd, wrap64 (by omega) (by omega)]
        have := rowD_set (depTo ps k) (accD (depTo ps k) ((known ps[k]).take j)) (maxI (accD (depTo ps k) ((known ps[k]).take j)) ((depTo ps k)[(known ps[k])[j].toNat] + 1)) (ps.length - k - 1)
        rw [hdl] at this
        exact this
      have e3 : LV.hs 0 (rowD (depTo ps k) (accD (depTo ps k) ((known ps[k]).take j)) (ps.length - k - 1)).length = LV.hs 0 (rowD (depTo ps k) (accD (depTo ps k) ((known ps[k]).take (j + 1))) (ps.length - k - 1)).length := by rw [rowD_len, rowD_len]
      refine round_end (j + 1) hjl (by omega) ⟨?_, ⟨congrArg (Blk.arr 3 1) e2, rfl, trivial⟩, rfl, rfl⟩
      repeat ((conv => whnf); first | refine ⟨he, ?_⟩ | refine ⟨e3, ?_⟩ | refine ⟨rfl, ?_⟩)
      trivial
    · have hj3 : j = (known ps[k]).length := by rw [ltI_f] at g1; simp at g1; omega
      subst hj3
      have e2 : rowD (depTo ps k) (accD (depTo ps k) ((known ps[k]).take (known ps[k]).length)) (ps.length - k - 1) = rowK ps (k + 1) := by
        rw [List.take_length, accD_known hrg hps.1 hps.2]
        exact rowK_succ hlt
      have e3 := congrArg (fun l : List LV => LV.hs 0 l.length) e2
      ((repeat ((conv => whnf); first | refine brT ?_ | refine brF ?_)); conv => whnf)
      refine round_end (k + 1) hlt (by omega) ⟨?_, ⟨congrArg (Blk.arr 3 1) e2, trivial⟩, rfl, rfl⟩
      repeat ((conv => whnf); first | refine ⟨e, ?_⟩ | refine ⟨e3, ?_⟩ | refine ⟨rfl, ?_⟩)
      trivial
  · have h3 : k = ps.length := by rw [ltI_f] at h1; simp at h1; omega
    subst h3
    ((repeat ((conv => whnf); first | refine brT ?_ | refine brF ?_)); conv => whnf)
    exact ⟨rfl, rfl, rfl, by simp [rowK, depths], by simp⟩
end Go.Proofs.Ytbiagkccgijdlaa


namespace Go.Proofs.Ytbiagkccgijdlaa
open Go.Lg
set_option maxHeartbeats 400000
set_option maxRecDepth 10000
set_option linter.unusedVariables false
set_option linter.unusedSimpArgs false

def fits (u : Uni) (p : Per) : Bool := leI p.born u.since && livedTo p (maxI u.since u.till)
def bothFit (ps : List Per) (u : Uni) : Bool := match ps[u.husband.toNat]?, ps[u.wife.toNat]? with
  | some a, some b => fits u a && fits u b
  | _, _ => false
def unionOk (ps : List Per) (before : List Uni) (u : Uni) : Bool :=
  (ofSex ps u.husband 1 && ofSex ps u.wife 2) && ((leI u.since 9999 && endYear u.till u.since) && (notB (before.any (unitedOf u.husband u.wife)) && bothFit ps u))

theorem ofSex_lt {ps : List Per} {x sex : Int} (h : ofSex ps x sex = true) : ∃ (_ : 0 ≤ x) (h : x.toNat < ps.length), ps[x.toNat].sex = sex := by
  unfold ofSex at h
  simp only [Bool.and_eq_true, leI_t] at h
  obtain ⟨h0, h1⟩ := h
  split at h1
  · rename_i q hq
    obtain ⟨hl, rfl⟩ := List.getElem?_eq_some_iff.1 hq
    exact ⟨h0, hl, eqI_t.1 h1⟩
  · cases h1

/-- impl.isUnionAfter -/
theorem isUnionAfter_spec (ps : List Per) (us : List Uni) (u : Uni) : FSpec env.P 117 [.sl (us.map Uni.lv), u.lv, .sl (ps.map Per.lv)] (.bool (unionOk ps us u)) := by
  refine FSpec_of_code env_ok (fn := Try.f117) Try.func117 rfl Try.call117 _ _ ?_
  ((repeat' (((repeat ((conv => whnf); first | refine brT ?_ | refine brF ?_)); conv => whnf); first | (refine And.intro ?_ ?_ <;> (intro h; rw [h]; revert h; intro _)) | (refine Exists.intro true (And.intro (a := drawB _ _ = true) (by kernel_rfl) ?_)) | (refine Exists.intro _ (And.intro (isOfSex_spec ps _ _) ?_)) | (refine Exists.intro _ (And.intro (isEndYear_spec _ _) ?_)) | (refine Exists.intro _ (And.intro (isUnited_spec us _ _) ?_)))); all_goals ((repeat ((conv => whnf); first | refine brT ?_ | refine brF ?_)); conv => whnf))
  all_goals first
    | (refine fin ?_; grind [unionOk, notB_t, notB_f, ltI_t, ltI_f, leI_t, leI_f])
    | skip
  rename_i s1 s2 s3 s4 s5
  rw [notB_f] at s1 s2 s4
  obtain ⟨m0, ml, _⟩ := ofSex_lt s1
  obtain ⟨w0, wl, _⟩ := ofSex_lt s2
  have hb : bothFit ps u = (fits u ps[u.husband.toNat] && fits u ps[u.wife.toNat]) := by simp [bothFit, ml, wl]
  have hu : unionOk ps us u = (fits u ps[u.husband.toNat] && fits u ps[u.wife.toNat]) := by
    have s3' : leI u.since 9999 = true := by rw [leI_t]; rw [ltI_f] at s3; exact s3
    unfold unionOk
    rw [hb, s1, s2, s3', s4, s5]
    simp [notB]
  refine ⟨u.husband.toNat, ps[u.husband.toNat].lv, by omega, by simp [ml], rfl, ?_⟩
  ((repeat ((conv => whnf); first | refine brT ?_ | refine brF ?_)); conv => whnf)
  refine ⟨u.wife.toNat, ps[u.wife.toNat].lv, by omega, by simp [wl], rfl, ?_⟩
  ((repeat ((conv => whnf); first | refine brT ?_ | refine brF ?_)); conv => whnf)
  refine ⟨rfl, fun _ => ?_⟩
  ((repeat ((conv => whnf); first | refine brT ?_ | refine brF ?_)); conv => whnf)
  generalize ps[u.husband.toNat] = a at hu ⊢
  generalize ps[u.wife.toNat] = b at hu ⊢
  refine loop_rule (α := Nat) (fun k => [(58, .int .i64 (k : Int))]) (fun k => [.box u.lv, .arr 93 6 [a.lv, b.lv]]) (fun k => 2 - k) (fun k => k ≤ 2 ∧ ∀ j (h : j < 2), j < k → fits u ([a, b][j]'h) = true) 0 ⟨Nat.zero_le _, fun j h k => by omega⟩ ?_ ?_
  · refine ⟨?_, ⟨rfl, rfl, trivial⟩, rfl, rfl⟩
    ((repeat ((conv => whnf); refine ⟨rfl, ?_⟩)); trivial)
  rintro k ⟨hk, hf⟩
  ((repeat ((conv => whnf); first | refine brT ?_ | refine brF ?_)); conv => whnf)
  (refine ⟨fun h1 => ?_, fun h1 => ?_⟩ <;> rw [h1])
  · have hlt : k < 2 := by rw [ltI_t] at h1; simp at h1; omega
    have e : LV.int .i64 (IntKind.i64.wrap ((k : Int) + 1)) = LV.int .i64 ((k + 1 : Nat) : Int) := step_i hlt (by decide)
    have hno : fits u ([a, b][k]'hlt) = false → unionOk ps us u = false := fun h => by
      rw [hu]
      match k, hlt, h with
      | 0, _, h => simp at h; simp [h]
      | 1, _, h => simp at h; simp [h]
    ((repeat ((conv => whnf); first | refine brT ?_ | refine brF ?_)); conv => whnf)
    refine ⟨rfl, by decide, k, rfl, hlt, ?_⟩
    ((repeat ((conv => whnf); first | refine brT ?_ | refine brF ?_)); conv => whnf)
    refine ⟨rfl, by simp, ([a, b][k]'hlt).lv, ?_, rfl, ?_⟩
    · match k, hlt with
      | 0, _ => rfl
      | 1, _ => rfl
    ((repeat' (((repeat ((conv => whnf); first | refine brT ?_ | refine brF ?_)); conv => whnf); first | (refine And.intro ?_ ?_ <;> (intro h; rw [h]; revert h; intro _)) | (refine Exists.intro true (And.intro (a := drawB _ _ = true) (by kernel_rfl) ?_)) | (refine Exists.intro _ (And.intro (livedTo_spec ([a, b][k]'hlt) _) ?_)))); all_goals ((repeat ((conv => whnf); first | refine brT ?_ | refine brF ?_)); conv => whnf))
    · refine fin ?_
      rw [hno]
      grind [fits, notB_t, notB_f, ltI_t, ltI_f, leI_t, leI_f]
    · refine fin ?_
      rw [hno]
      grind [fits, notB_t, notB_f, ltI_t, ltI_f, leI_t, leI_f]
    · rename_i g1 g2
      refine round_end (k + 1) ⟨hlt, fun j hj hjk => ?_⟩ (by omega) ⟨?_, ⟨rfl, rfl, trivial⟩, rfl, rfl⟩
      · by_cases ej : j = k
        · subst ej
          grind [fits, notB_t, notB_f, ltI_t, ltI_f, leI_t, leI_f]
        · exact hf j hj (by omega)
      · ((repeat ((conv => whnf); first | refine ⟨e, ?_⟩ | refine ⟨rfl, ?_⟩)); trivial)
  · have h3 : k = 2 := by rw [ltI_f] at h1; simp at h1; omega
    subst h3
    ((repeat ((conv => whnf); first | refine brT ?_ | refine brF ?_)); conv => whnf)
    refine fin ?_
    have f0 := hf 0 (by omega) (by omega)
    have f1 := hf 1 (by omega) (by omega)
    simp at f0 f1
    rw [hu, f0, f1]
    rfl
end Go.Proofs.Ytbiagkccgijdlaa


namespace Go.Proofs.Ytbiagkccgijdlaa
open Go.Lg
set_option maxHeartbeats 800000
set_option maxRecDepth 10000
set_option linter.unusedVariables false
set_option linter.unusedSimpArgs false

theorem in_iff {x : Int} {n : Nat} (hn : n ≤ 1000) : (leI 0 x && leI x (IntKind.i64.wrap ((n : Int) - 1))) = true ↔ 0 ≤ x ∧ x < n := by
  rw [wrap64 (by omega) (by omega), Bool.and_eq_true, leI_t, leI_t]
  omega

theorem unitedTo_succ {us : List Uni} {m f : Int} {j : Nat} (h : j < us.length) : (us.take (j + 1)).any (unitedOf m f) = ((us.take j).any (unitedOf m f) || unitedOf m f us[j]) := by
  rw [List.take_succ_eq_append_getElem h, List.any_append]
  simp
theorem united_yes {us : List Uni} {m f : Int} {j k : Nat} (hj : j < k) (h : j < us.length) (e : unitedOf m f us[j] = true) : (us.take k).any (unitedOf m f) = true := by
  rw [List.any_eq_true]
  refine ⟨us[j], ?_, e⟩
  rw [List.mem_take_iff_getElem]
  exact ⟨j, by omega, rfl⟩

/-- spec.l1Union -/
theorem l1Union_spec (ps : List Per) (us : List Uni) (k : Nat) (hk : k < us.length) (hl : ps.length ≤ 40) (hul : us.length ≤ 60) : FSpec env.P 124 [famLV ps us, .int .i64 (k : Int)] (.bool (unionOk ps (us.take k) us[k])) := by
  refine FSpec_of_code env_ok (fn := Try.f124) Try.func124 rfl Try.call124 _ _ ?_
  ((repeat ((conv => whnf); first | refine brT ?_ | refine brF ?_)); conv => whnf)
  refine ⟨k, us[k].lv, rfl, by simp [hk], rfl, ?_⟩
  ((repeat ((conv => whnf); first | refine brT ?_ | refine brF ?_)); conv => whnf)
  intro hn
  have hlen : ((ps.map Per.lv).length : Int) = ps.length := by simp
  rw [hlen]
  have hin : ∀ x : Int, (leI 0 x && leI x (IntKind.i64.wrap ((ps.length : Int) - 1))) = true ↔ 0 ≤ x ∧ x < ps.length := fun x => in_iff (by omega)
  have hno : ∀ x s : Int, ¬ (0 ≤ x ∧ x < ps.length) → ofSex ps x s = false := fun x s h => by
    cases e : ofSex ps x s with
    | false => rfl
    | true => obtain ⟨a, b, _⟩ := ofSex_lt e; exact absurd ⟨a, by omega⟩ h
  have hsex : ∀ (x s : Int) (h0 : 0 ≤ x) (h : x.toNat < ps.length), ofSex ps x s = eqI ps[x.toNat].sex s := fun x s h0 h => by
    unfold ofSex; rw [leI_t.2 h0, List.getElem?_eq_getElem h]; rfl
  ((repeat' (((repeat ((conv => whnf); first | refine brT ?_ | refine brF ?_)); conv => whnf); first | (refine And.intro ?_ ?_ <;> (intro h; rw [h]; revert h; intro _)) | (refine Exists.intro true (And.intro (a := drawB _ _ = true) (by kernel_rfl) ?_)) | (refine Exists.intro _ (And.intro (l1In_spec _ _ _) ?_)))); all_goals ((repeat ((conv => whnf); first | refine brT ?_ | refine brF ?_)); conv => whnf))
  all_goals first
    | (refine fin ?_; grind [unionOk, notB_t, notB_f])
    | skip
  rename_i a1 a2
  rw [notB_f, hin] at a1 a2
  have ml : us[k].husband.toNat < ps.length := by omega
  have wl : us[k].wife.toNat < ps.length := by omega
  have hm := hsex us[k].husband 1 a1.1 ml
  have hw := hsex us[k].wife 2 a2.1 wl
  have hb : bothFit ps us[k] = (fits us[k] ps[us[k].husband.toNat] && fits us[k] ps[us[k].wife.toNat]) := by simp [bothFit, ml, wl]
  refine ⟨us[k].husband.toNat, ps[us[k].husband.toNat].lv, by omega, by simp [ml], rfl, ?_⟩
  ((repeat ((conv => whnf); first | refine brT ?_ | refine brF ?_)); conv => whnf)
  (refine ⟨fun b1 => ?_, fun b1 => ?_⟩ <;> rw [b1])
  · rw [notB_t] at b1
    ((repeat ((conv => whnf); first | refine brT ?_ | refine brF ?_)); conv => whnf); refine fin ?_
    simp [unionOk, hm, b1]
  rw [notB_f] at b1
  ((repeat ((conv => whnf); first | refine brT ?_ | refine brF ?_)); conv => whnf)
  refine ⟨us[k].wife.toNat, ps[us[k].wife.toNat].lv, by omega, by simp [wl], rfl, ?_⟩
  ((repeat' (((repeat ((conv => whnf); first | refine brT ?_ | refine brF ?_)); conv => whnf); first | (refine And.intro ?_ ?_ <;> (intro h; rw [h]; revert h; intro _)) | (refine Exists.intro true (And.intro (a := drawB _ _ = true) (by kernel_rfl) ?_)) | (refine Exists.intro _ (And.intro (l1In_spec _ _ _) ?_)))); all_goals ((repeat ((conv => whnf); first | refine brT ?_ | refine brF ?_)); conv => whnf))
  all_goals first
    | (refine fin ?_; grind [unionOk, endYear, notB_t, notB_f, ltI_t, ltI_f, leI_t, leI_f])
    | skip
  all_goals
    have hu : unionOk ps (us.take k) us[k] = (notB ((us.take k).any (unitedOf us[k].husband us[k].wife)) && (fits us[k] ps[us[k].husband.toNat] && fits us[k] ps[us[k].wife.toNat])) := by
      have s3 : leI us[k].since 9999 = true := by grind [ltI_t, ltI_f, leI_t, leI_f]
      have s4 : endYear us[k].till us[k].since = true := by grind [endYear, notB_t, notB_f]
      have s5 : ofSex ps us[k].wife 2 = true := by grind [notB_t, notB_f]
      unfold unionOk
      rw [hb, hm, b1, s3, s4, s5]
      simp
    refine ⟨rfl, fun _ => ?_⟩
    ((repeat ((conv => whnf); first | refine brT ?_ | refine brF ?_)); conv => whnf)
    refine loop_rule (α := Nat) (fun j => [(75, .int .i64 (j : Int))]) (fun j => [.box (famLV ps us), .box us[k].lv, .arr 3 1 [.int .i64 us[k].husband, .int .i64 us[k].wife]]) (fun j => 2 - j)
      (fun j => j ≤ 2 ∧ ∀ i (h : i < 2), i < j → fits us[k] ([ps[us[k].husband.toNat], ps[us[k].wife.toNat]][i]'h) = true) 0 ⟨Nat.zero_le _, fun j h k => by omega⟩ ?_ ?_
    · refine ⟨?_, ⟨rfl, rfl, rfl, trivial⟩, rfl, rfl⟩
      ((repeat ((conv => whnf); refine ⟨rfl, ?_⟩)); trivial)
    rintro j ⟨hj, hf⟩
    ((repeat ((conv => whnf); first | refine brT ?_ | refine brF ?_)); conv => whnf)
    (refine ⟨fun h1 => ?_, fun h1 => ?_⟩ <;> rw [h1])
    · have hlt : j < 2 := by rw [ltI_t] at h1; simp at h1; omega
      have e : LV.int .i64 (IntKind.i64.wrap ((j : Int) + 1)) = LV.int .i64 ((j + 1 : Nat) : Int) := step_i hlt (by decide)
      have hfno : fits us[k] ([ps[us[k].husband.toNat], ps[us[k].wife.toNat]][j]'hlt) = false → unionOk ps (us.take k) us[k] = false := fun h => by
        rw [hu]
        match j, hlt, h with
        | 0, _, h => simp at h; simp [h]
        | 1, _, h => simp at h; simp [h]
      have hx : ∃ x : Int, ([LV.int .i64 us[k].husband, LV.int .i64 us[k].wife])[j]? = some (.int .i64 x) ∧ 0 ≤ x ∧ ∃ h : x.toNat < ps.length, ps[x.toNat] = [ps[us[k].husband.toNat], ps[us[k].wife.toNat]][j]'hlt := by
        match j, hlt with
        | 0, _ => exact ⟨_, rfl, a1.1, ml, rfl⟩
        | 1, _ => exact ⟨_, rfl, a2.1, wl, rfl⟩
      obtain ⟨x, hx1, hx2, hx3, hx4⟩ := hx
      ((repeat ((conv => whnf); first | refine brT ?_ | refine brF ?_)); conv => whnf)
      refine ⟨rfl, by decide, j, rfl, hlt, ?_⟩
      ((repeat ((conv => whnf); first | refine brT ?_ | refine brF ?_)); conv => whnf)
      refine ⟨rfl, by simp, .int .i64 x, by simp only [getP, hx1], rfl, ?_⟩
      ((repeat ((conv => whnf); first | refine brT ?_ | refine brF ?_)); conv => whnf)
      refine ⟨x.toNat, ps[x.toNat].lv, by omega, by simp [hx3], rfl, ?_⟩
      rw [hx4]
      generalize hq : [ps[us[k].husband.toNat], ps[us[k].wife.toNat]][j]'hlt = q at hfno
      ((repeat' (((repeat ((conv => whnf); first | refine brT ?_ | refine brF ?_)); conv => whnf); (refine And.intro ?_ ?_ <;> (intro h; rw [h]; revert h; intro _)))); all_goals ((repeat ((conv => whnf); first | refine brT ?_ | refine brF ?_)); conv => whnf))
      all_goals first
        | (refine fin ?_
           rw [hfno]
           have hmx : leI (maxI us[k].since us[k].till) q.died = (leI us[k].since q.died && leI us[k].till q.died) := by
             rw [Bool.eq_iff_iff]; simp only [Bool.and_eq_true, leI_t]; unfold maxI; split <;> omega
           simp only [fits, livedTo, hmx]
           grind [notB_t, notB_f, ltI_t, ltI_f, leI_t, leI_f, eqI_t, eqI_f])
        | skip
      all_goals
        refine round_end (j + 1) ⟨hlt, fun i hi hij => ?_⟩ (by omega) ⟨?_, ⟨rfl, rfl, rfl, trivial⟩, rfl, rfl⟩
        · by_cases ej : i = j
          · subst ej
            rw [hq]
            have hmx : leI (maxI us[k].since us[k].till) q.died = (leI us[k].since q.died && leI us[k].till q.died) := by
              rw [Bool.eq_iff_iff]; simp only [Bool.and_eq_true, leI_t]; unfold maxI; split <;> omega
            simp only [fits, livedTo, hmx]
            grind [notB_t, notB_f, ltI_t, ltI_f, leI_t, leI_f, eqI_t, eqI_f]
          · exact hf i hi (by omega)
        · ((repeat ((conv => whnf); first | refine ⟨e, ?_⟩ | refine ⟨rfl, ?_⟩)); trivial)
    · have h3 : j = 2 := by rw [ltI_f] at h1; simp at h1; omega
      subst h3
      have f0 := hf 0 (by omega) (by omega)
      have f1 := hf 1 (by omega) (by omega)
      simp at f0 f1
      have hu' : unionOk ps (us.take k) us[k] = notB ((us.take k).any (unitedOf us[k].husband us[k].wife)) := by rw [hu, f0, f1]; simp
      ((repeat ((conv => whnf); first | refine brT ?_ | refine brF ?_)); conv => whnf)
      refine loop_rule (α := Nat) (fun j => [(10, .int .i64 (j : Int))]) (fun j => [.box (famLV ps us), .box us[k].lv, .arr 3 1 [.int .i64 us[k].husband, .int .i64 us[k].wife]]) (fun j => k - j)
        (fun j => j ≤ k ∧ (us.take j).any (unitedOf us[k].husband us[k].wife) = false) 0 ⟨Nat.zero_le _, rfl⟩ ?_ ?_
      · refine ⟨?_, ⟨rfl, rfl, rfl, trivial⟩, rfl, rfl⟩
        ((repeat ((conv => whnf); refine ⟨rfl, ?_⟩)); trivial)
      rintro j ⟨hj, hf⟩
      ((repeat ((conv => whnf); first | refine brT ?_ | refine brF ?_)); conv => whnf)
      (refine ⟨fun g1 => ?_, fun g1 => ?_⟩ <;> rw [g1])
      · have hjl : j < k := by rw [ltI_t] at g1; omega
        have hju : j < us.length := by omega
        have e := step_i hjl (by unfold Go.maxLen; omega)
        ((repeat ((conv => whnf); first | refine brT ?_ | refine brF ?_)); conv => whnf)
        refine ⟨true, by kernel_rfl, ?_⟩
        ((repeat ((conv => whnf); first | refine brT ?_ | refine brF ?_)); conv => whnf)
        refine ⟨j, us[j].lv, rfl, by simp [hju], rfl, ?_⟩
        ((repeat ((conv => whnf); first | refine brT ?_ | refine brF ?_)); conv => whnf)
        (refine ⟨fun g2 => ?_, fun g2 => ?_⟩ <;> rw [g2])
        · ((repeat ((conv => whnf); first | refine brT ?_ | refine brF ?_)); conv => whnf)
          refine ⟨j, us[j].lv, rfl, by simp [hju], rfl, ?_⟩
          ((repeat ((conv => whnf); first | refine brT ?_ | refine brF ?_)); conv => whnf)
          (refine ⟨fun g3 => ?_, fun g3 => ?_⟩ <;> rw [g3])
          · ((repeat ((conv => whnf); first | refine brT ?_ | refine brF ?_)); conv => whnf)
            refine fin ?_
            rw [hu', united_yes hjl hju (by simp [unitedOf, g2, g3])]
            simp [notB]
          · ((repeat ((conv => whnf); first | refine brT ?_ | refine brF ?_)); conv => whnf)
            refine round_end (j + 1) ⟨hjl, by rw [unitedTo_succ hju, hf]; simp [unitedOf, g3]⟩ (by omega) ⟨?_, ⟨rfl, rfl, rfl, trivial⟩, rfl, rfl⟩
            ((repeat ((conv => whnf); first | refine ⟨e, ?_⟩ | refine ⟨rfl, ?_⟩)); trivial)
        · ((repeat ((conv => whnf); first | refine brT ?_ | refine brF ?_)); conv => whnf)
          refine round_end (j + 1) ⟨hjl, by rw [unitedTo_succ hju, hf]; simp [unitedOf, g2]⟩ (by omega) ⟨?_, ⟨rfl, rfl, rfl, trivial⟩, rfl, rfl⟩
          ((repeat ((conv => whnf); first | refine ⟨e, ?_⟩ | refine ⟨rfl, ?_⟩)); trivial)
      · have hjk : j = k := by rw [ltI_f] at g1; omega
        subst hjk
        ((repeat ((conv => whnf); first | refine brT ?_ | refine brF ?_)); conv => whnf)
        refine fin ?_
        rw [hu', hf]
        simp [notB]
end Go.Proofs.Ytbiagkccgijdlaa


namespace Go.Proofs.Ytbiagkccgijdlaa
open Go.Lg
set_option maxHeartbeats 400000
set_option maxRecDepth 10000
set_option linter.unusedVariables false
set_option linter.unusedSimpArgs false

/-- impl.isPersonAfter -/
def personOk (ps : List Per) (p : Per) : Bool := match findFrom p.name 0 ps with
  | some _ => false
  | none => isName p.name && ((eqI p.sex 1 || eqI p.sex 2) && ((leI 0 p.born && (leI p.born 9999 && endYear p.died p.born)) &&
      (parentOk ps p.father 1 p.born && parentOk ps p.mother 2 p.born)))
theorem isPersonAfter_spec (ps : List Per) (p : Per) : FSpec env.P 116 [.sl (ps.map Per.lv), p.lv] (.bool (personOk ps p)) := by
  refine FSpec_of_code env_ok (fn := Try.f116) Try.func116 rfl Try.call116 _ _ ?_
  ((repeat ((conv => whnf); first | refine brT ?_ | refine brF ?_)); conv => whnf)
  refine ⟨_, indexOfName_spec ps p.name, ?_⟩
  cases hf : findFrom p.name 0 ps with
  | some i =>
    ((repeat ((conv => whnf); first | refine brT ?_ | refine brF ?_)); conv => whnf)
    refine fin ?_
    simp [personOk, hf]
  | none =>
    ((repeat ((conv => whnf); first | refine brT ?_ | refine brF ?_)); conv => whnf)
    refine ⟨_, isNameImpl_spec p.name, ?_⟩
    ((repeat ((conv => whnf); first | refine brT ?_ | refine brF ?_)); conv => whnf)
    refine ⟨fun h => ?_, fun h => ?_⟩ <;> rw [h]
    · ((repeat ((conv => whnf); first | refine brT ?_ | refine brF ?_)); conv => whnf); refine fin ?_; rw [notB_t] at h; simp [personOk, hf, h]
    rw [notB_f] at h
    ((repeat ((conv => whnf); first | refine brT ?_ | refine brF ?_)); conv => whnf)
    refine ⟨fun h1 => ?_, fun h1 => ?_⟩ <;> rw [h1]
    · rw [notB_t] at h1
      ((repeat ((conv => whnf); first | refine brT ?_ | refine brF ?_)); conv => whnf)
      refine ⟨fun h2 => ?_, fun h2 => ?_⟩ <;> rw [h2]
      · ((repeat ((conv => whnf); first | refine brT ?_ | refine brF ?_)); conv => whnf); refine fin ?_; rw [notB_t] at h2; simp [personOk, hf, h1, h2]
      rw [notB_f] at h2
      have hs : (eqI p.sex 1 || eqI p.sex 2) = true := by simp [h2]
      ((repeat ((conv => whnf); first | refine brT ?_ | refine brF ?_)); conv => whnf)
      refine ⟨fun b1 => ?_, fun b1 => ?_⟩ <;> rw [b1]
      · ((repeat ((conv => whnf); first | refine brT ?_ | refine brF ?_)); conv => whnf); refine fin ?_; have c1 : leI 0 p.born = false := by rw [leI_f]; rw [ltI_t] at b1; exact b1
        simp [personOk, hf, c1]
      have c1 : leI 0 p.born = true := by rw [leI_t]; rw [ltI_f] at b1; exact b1
      ((repeat ((conv => whnf); first | refine brT ?_ | refine brF ?_)); conv => whnf)
      refine ⟨fun b2 => ?_, fun b2 => ?_⟩ <;> rw [b2]
      · ((repeat ((conv => whnf); first | refine brT ?_ | refine brF ?_)); conv => whnf); refine fin ?_; have c2 : leI p.born 9999 = false := by rw [leI_f]; rw [ltI_t] at b2; exact b2
        simp [personOk, hf, c2]
      have c2 : leI p.born 9999 = true := by rw [leI_t]; rw [ltI_f] at b2; exact b2
      ((repeat ((conv => whnf); first | refine brT ?_ | refine brF ?_)); conv => whnf)
      refine ⟨_, isEndYear_spec _ _, ?_⟩
      ((repeat ((conv => whnf); first | refine brT ?_ | refine brF ?_)); conv => whnf)
      refine ⟨fun b3 => ?_, fun b3 => ?_⟩ <;> rw [b3]
      · ((repeat ((conv => whnf); first | refine brT ?_ | refine brF ?_)); conv => whnf); refine fin ?_; rw [notB_t] at b3; simp [personOk, hf, b3]
      rw [notB_f] at b3
      ((repeat ((conv => whnf); first | refine brT ?_ | refine brF ?_)); conv => whnf)
      refine ⟨_, isParentOf_spec ps _ _ _, ?_⟩
      ((repeat ((conv => whnf); first | refine brT ?_ | refine brF ?_)); conv => whnf)
      refine ⟨fun b4 => ?_, fun b4 => ?_⟩ <;> rw [b4]
      · ((repeat ((conv => whnf); first | refine brT ?_ | refine brF ?_)); conv => whnf)
        refine ⟨_, isParentOf_spec ps _ _ _, ?_⟩
        ((repeat ((conv => whnf); first | refine brT ?_ | refine brF ?_)); conv => whnf); refine fin ?_; simp [personOk, hf, h, hs, c1, c2, b3, b4]
      · ((repeat ((conv => whnf); first | refine brT ?_ | refine brF ?_)); conv => whnf); refine fin ?_; simp [personOk, hf, b4]
    · rw [notB_f] at h1
      have hs : (eqI p.sex 1 || eqI p.sex 2) = true := by simp [h1]
      ((repeat ((conv => whnf); first | refine brT ?_ | refine brF ?_)); conv => whnf)
      refine ⟨fun b1 => ?_, fun b1 => ?_⟩ <;> rw [b1]
      · ((repeat ((conv => whnf); first | refine brT ?_ | refine brF ?_)); conv => whnf); refine fin ?_; have c1 : leI 0 p.born = false := by rw [leI_f]; rw [ltI_t] at b1; exact b1
        simp [personOk, hf, c1]
      have c1 : leI 0 p.born = true := by rw [leI_t]; rw [ltI_f] at b1; exact b1
      ((repeat ((conv => whnf); first | refine brT ?_ | refine brF ?_)); conv => whnf)
      refine ⟨fun b2 => ?_, fun b2 => ?_⟩ <;> rw [b2]
      · ((repeat ((conv => whnf); first | refine brT ?_ | refine brF ?_)); conv => whnf); refine fin ?_; have c2 : leI p.born 9999 = false := by rw [leI_f]; rw [ltI_t] at b2; exact b2
        simp [personOk, hf, c2]
      have c2 : leI p.born 9999 = true := by rw [leI_t]; rw [ltI_f] at b2; exact b2
      ((repeat ((conv => whnf); first | refine brT ?_ | refine brF ?_)); conv => whnf)
      refine ⟨_, isEndYear_spec _ _, ?_⟩
      ((repeat ((conv => whnf); first | refine brT ?_ | refine brF ?_)); conv => whnf)
      refine ⟨fun b3 => ?_, fun b3 => ?_⟩ <;> rw [b3]
      · ((repeat ((conv => whnf); first | refine brT ?_ | refine brF ?_)); conv => whnf); refine fin ?_; rw [notB_t] at b3; simp [personOk, hf, b3]
      rw [notB_f] at b3
      ((repeat ((conv => whnf); first | refine brT ?_ | refine brF ?_)); conv => whnf)
      refine ⟨_, isParentOf_spec ps _ _ _, ?_⟩
      ((repeat ((conv => whnf); first | refine brT ?_ | refine brF ?_)); conv => whnf)
      refine ⟨fun b4 => ?_, fun b4 => ?_⟩ <;> rw [b4]
      · ((repeat ((conv => whnf); first | refine brT ?_ | refine brF ?_)); conv => whnf)
        refine ⟨_, isParentOf_spec ps _ _ _, ?_⟩
        ((repeat ((conv => whnf); first | refine brT ?_ | refine brF ?_)); conv => whnf); refine fin ?_; simp [personOk, hf, h, hs, c1, c2, b3, b4]
      · ((repeat ((conv => whnf); first | refine brT ?_ | refine brF ?_)); conv => whnf); refine fin ?_; simp [personOk, hf, b4]
end Go.Proofs.Ytbiagkccgijdlaa


namespace Go.Proofs.Ytbiagkccgijdlaa
open Go.Lg
set_option maxHeartbeats 800000
set_option maxRecDepth 10000
set_option linter.unusedVariables false
set_option linter.unusedSimpArgs false

def personsTo (ps : List Per) (k : Nat) : Bool := (List.range k).all fun i => match ps[i]? with | some p => personOk (ps.take i) p | none => true
def unionsTo (ps : List Per) (us : List Uni) (k : Nat) : Bool := (List.range k).all fun i => match us[i]? with | some u => unionOk ps (us.take i) u | none => true
def shallow (ds : List Int) : Bool := ds.all fun d => leI d 10
def famOk (ps : List Per) (us : List Uni) : Bool := decide (ps.length ≤ 40) && (decide (us.length ≤ 60) && (personsTo ps ps.length && (unionsTo ps us us.length && shallow (depths ps))))

theorem personsTo_succ {ps : List Per} {k : Nat} (h : k < ps.length) : personsTo ps (k + 1) = (personsTo ps k && personOk (ps.take k) ps[k]) := by
  unfold personsTo
  rw [List.range_succ, List.all_append]
  simp [h]
theorem personsTo_no {ps : List Per} {i k : Nat} (hi : i < k) (h : i < ps.length) (e : personOk (ps.take i) ps[i] = false) : personsTo ps k = false := by
  unfold personsTo
  rw [List.all_eq_false]
  exact ⟨i, List.mem_range.2 hi, by simp [h, e]⟩
theorem unionsTo_succ {ps : List Per} {us : List Uni} {k : Nat} (h : k < us.length) : unionsTo ps us (k + 1) = (unionsTo ps us k && unionOk ps (us.take k) us[k]) := by
  unfold unionsTo
  rw [List.range_succ, List.all_append]
  simp [h]
theorem unionsTo_no {ps : List Per} {us : List Uni} {i k : Nat} (hi : i < k) (h : i < us.length) (e : unionOk ps (us.take i) us[i] = false) : unionsTo ps us k = false := by
  unfold unionsTo
  rw [List.all_eq_false]
  exact ⟨i, List.mem_range.2 hi, by simp [h, e]⟩
theorem personsTo_get {ps : List Per} {k : Nat} (h : personsTo ps k = true) {i : Nat} (hi : i < k) (hl : i < ps.length) : personOk (ps.take i) ps[i] = true := by
  cases e : personOk (ps.take i) ps[i] with
  | true => rfl
  | false => rw [personsTo_no hi hl e] at h; cases h

theorem personOk_spec {ps : List Per} {p : Per} (h : personOk ps p = true) : findFrom p.name 0 ps = none ∧ isName p.name = true ∧ (p.sex = 1 ∨ p.sex = 2) ∧ 0 ≤ p.born ∧ p.born ≤ 9999 ∧ (p.died = -1 ∨ (p.born ≤ p.died ∧ p.died ≤ 9999)) ∧
    parentOk ps p.father 1 p.born = true ∧ parentOk ps p.mother 2 p.born = true := by
  unfold personOk at h
  split at h
  · cases h
  · rename_i hf
    simp only [endYear, Bool.and_eq_true, Bool.or_eq_true, leI_t, eqI_t] at h
    grind
theorem parentOk_in {ps : List Per} {x s b : Int} (h : parentOk ps x s b = true) : parIn x ps.length := by
  unfold parentOk at h
  simp only [Bool.or_eq_true, eqI_t, Bool.and_eq_true, leI_t] at h
  rcases h with h | ⟨h0, h1⟩
  · exact .inl h
  · split at h1
    · cases h1
    · rename_i q hq
      have := lt_of_get hq
      exact .inr ⟨h0, by omega⟩
theorem parsIn_of {ps : List Per} (h : personsTo ps ps.length = true) : parsIn ps := by
  intro i hi
  obtain ⟨_, _, _, _, _, _, h1, h2⟩ := personOk_spec (personsTo_get h hi hi)
  have e : (ps.take i).length = i := by simp; omega
  have a := parentOk_in h1
  have b := parentOk_in h2
  rw [e] at a b
  exact ⟨a, b⟩

theorem shallow_succ {ds : List Int} {k : Nat} (h : k < ds.length) : shallow (ds.take (k + 1)) = (shallow (ds.take k) && leI ds[k] 10) := by
  unfold shallow
  rw [List.take_succ_eq_append_getElem h, List.all_append]
  simp
theorem shallow_no {ds : List Int} {k : Nat} (h : k < ds.length) (e : ltI 10 ds[k] = true) : shallow ds = false := by
  unfold shallow
  rw [List.all_eq_false]
  refine ⟨ds[k], List.getElem_mem h, ?_⟩
  rw [ltI_t] at e
  rw [Bool.not_eq_true, leI_f]; omega
theorem shallow_le {a : Int} (h : ltI 10 a = false) : leI a 10 = true := by rw [leI_t]; rw [ltI_f] at h; omega

theorem isPersonAfter_take (ps : List Per) (k : Nat) (p : Per) : FSpec env.P 116 [.sl (((ps.map Per.lv).drop 0).take (k - 0)), p.lv] (.bool (personOk (ps.take k) p)) := by
  have := isPersonAfter_spec (ps.take k) p
  rw [List.map_take] at this
  simpa using this
theorem isUnionAfter_take (ps : List Per) (us : List Uni) (k : Nat) (u : Uni) : FSpec env.P 117 [.sl (((us.map Uni.lv).drop 0).take (k - 0)), u.lv, .sl (ps.map Per.lv)] (.bool (unionOk ps (us.take k) u)) := by
  have := isUnionAfter_spec ps (us.take k) u
  rw [List.map_take] at this
  simpa using this

/-- impl.IsFamily -/
theorem isFamily_impl (ps : List Per) (us : List Uni) : FSpec env.P 83 [famLV ps us] (.bool (famOk ps us)) := by
  refine FSpec_of_code env_ok (fn := Try.f83) Try.func83 rfl Try.call83 _ _ ?_
  ((repeat ((conv => whnf); first | refine brT ?_ | refine brF ?_)); conv => whnf)
  intro hpn
  ((repeat ((conv => whnf); first | refine brT ?_ | refine brF ?_)); conv => whnf)
  (refine ⟨fun h1 => ?_, fun h1 => ?_⟩ <;> rw [h1])
  · ((repeat ((conv => whnf); first | refine brT ?_ | refine brF ?_)); conv => whnf)
    refine fin ?_
    have : decide (ps.length ≤ 40) = false := by rw [ltI_t] at h1; simp at h1; simp; omega
    simp [famOk, this]
  have hl : ps.length ≤ 40 := by rw [ltI_f] at h1; simp at h1; omega
  ((repeat ((conv => whnf); first | refine brT ?_ | refine brF ?_)); conv => whnf)
  intro hun
  ((repeat ((conv => whnf); first | refine brT ?_ | refine brF ?_)); conv => whnf)
  (refine ⟨fun h2 => ?_, fun h2 => ?_⟩ <;> rw [h2])
  · ((repeat ((conv => whnf); first | refine brT ?_ | refine brF ?_)); conv => whnf)
    refine fin ?_
    have : decide (us.length ≤ 60) = false := by rw [ltI_t] at h2; simp at h2; simp; omega
    simp [famOk, this]
  have hul : us.length ≤ 60 := by rw [ltI_f] at h2; simp at h2; omega
  have hp' : ps.length ≤ Go.maxLen := by simpa using hpn
  have hu' : us.length ≤ Go.maxLen := by simpa using hun
  have hfam : famOk ps us = (personsTo ps ps.length && (unionsTo ps us us.length && shallow (depths ps))) := by simp [famOk, hl, hul]
  ((repeat ((conv => whnf); first | refine brT ?_ | refine brF ?_)); conv => whnf)
  intro _
  ((repeat ((conv => whnf); first | refine brT ?_ | refine brF ?_)); conv => whnf)
  refine loop_rule (α := Nat) (fun k => [(22, .int .i64 (k : Int))]) (fun k => [.box (famLV ps us)]) (fun k => ps.length - k) (fun k => k ≤ ps.length ∧ personsTo ps k = true) 0 ⟨Nat.zero_le _, rfl⟩ ?_ ?_
  · refine ⟨?_, ⟨rfl, trivial⟩, rfl, rfl⟩
    ((repeat ((conv => whnf); refine ⟨rfl, ?_⟩)); trivial)
  rintro k ⟨hk, hok⟩
  ((repeat ((conv => whnf); first | refine brT ?_ | refine brF ?_)); conv => whnf)
  (refine ⟨fun g1 => ?_, fun g1 => ?_⟩ <;> rw [g1])
  · have hlt : k < ps.length := by rw [ltI_t] at g1; simp at g1; omega
    have e := step_i hlt hp'
    ((repeat ((conv => whnf); first | refine brT ?_ | refine brF ?_)); conv => whnf)
    refine ⟨k, ps[k].lv, rfl, by simp [hlt], rfl, ?_⟩
    ((repeat ((conv => whnf); first | refine brT ?_ | refine brF ?_)); conv => whnf)
    refine ⟨true, by kernel_rfl, ?_⟩
    ((repeat ((conv => whnf); first | refine brT ?_ | refine brF ?_)); conv => whnf)
    refine ⟨0, k, rfl, rfl, by omega, by simp; omega, by simp [Per.lv, LV.size, LV.sizes], ?_⟩
    ((repeat ((conv => whnf); first | refine brT ?_ | refine brF ?_)); conv => whnf)
    refine ⟨_, isPersonAfter_take ps k ps[k], ?_⟩
    ((repeat ((conv => whnf); first | refine brT ?_ | refine brF ?_)); conv => whnf)
    (refine ⟨fun g2 => ?_, fun g2 => ?_⟩ <;> rw [g2])
    · rw [notB_t] at g2
      ((repeat ((conv => whnf); first | refine brT ?_ | refine brF ?_)); conv => whnf)
      refine fin ?_
      rw [hfam, personsTo_no hlt hlt g2]
      rfl
    · rw [notB_f] at g2
      ((repeat ((conv => whnf); first | refine brT ?_ | refine brF ?_)); conv => whnf)
      refine round_end (k + 1) ⟨hlt, by rw [personsTo_succ hlt, hok, g2]; rfl⟩ (by omega) ⟨?_, ⟨rfl, trivial⟩, rfl, rfl⟩
      ((repeat ((conv => whnf); first | refine ⟨e, ?_⟩ | refine ⟨rfl, ?_⟩)); trivial)
  have hkl : k = ps.length := by rw [ltI_f] at g1; simp at g1; omega
  subst hkl
  have hpars := parsIn_of hok
  ((repeat ((conv => whnf); first | refine brT ?_ | refine brF ?_)); conv => whnf)
  intro _
  ((repeat ((conv => whnf); first | refine brT ?_ | refine brF ?_)); conv => whnf)
  refine loop_rule (α := Nat) (fun k => [(38, .int .i64 (k : Int))]) (fun k => [.box (famLV ps us)]) (fun k => us.length - k) (fun k => k ≤ us.length ∧ unionsTo ps us k = true) 0 ⟨Nat.zero_le _, rfl⟩ ?_ ?_
  · refine ⟨?_, ⟨rfl, trivial⟩, rfl, rfl⟩
    ((repeat ((conv => whnf); refine ⟨rfl, ?_⟩)); trivial)
  rintro j ⟨hj, huok⟩
  ((repeat ((conv => whnf); first | refine brT ?_ | refine brF ?_)); conv => whnf)
  (refine ⟨fun j1 => ?_, fun j1 => ?_⟩ <;> rw [j1])
  · have hlt : j < us.length := by rw [ltI_t] at j1; simp at j1; omega
    have e := step_i hlt hu'
    ((repeat ((conv => whnf); first | refine brT ?_ | refine brF ?_)); conv => whnf)
    refine ⟨j, us[j].lv, rfl, by simp [hlt], rfl, ?_⟩
    ((repeat ((conv => whnf); first | refine brT ?_ | refine brF ?_)); conv => whnf)
    refine ⟨true, by kernel_rfl, ?_⟩
    ((repeat ((conv => whnf); first | refine brT ?_ | refine brF ?_)); conv => whnf)
    refine ⟨0, j, rfl, rfl, by omega, by simp; omega, by simp [Uni.lv, LV.size, LV.sizes], ?_⟩
    ((repeat ((conv => whnf); first | refine brT ?_ | refine brF ?_)); conv => whnf)
    refine ⟨_, isUnionAfter_take ps us j us[j], ?_⟩
    ((repeat ((conv => whnf); first | refine brT ?_ | refine brF ?_)); conv => whnf)
    (refine ⟨fun j2 => ?_, fun j2 => ?_⟩ <;> rw [j2])
    · rw [notB_t] at j2
      ((repeat ((conv => whnf); first | refine brT ?_ | refine brF ?_)); conv => whnf)
      refine fin ?_
      rw [hfam, unionsTo_no hlt hlt j2]
      simp
    · rw [notB_f] at j2
      ((repeat ((conv => whnf); first | refine brT ?_ | refine brF ?_)); conv => whnf)
      refine round_end (j + 1) ⟨hlt, by rw [unionsTo_succ hlt, huok, j2]; rfl⟩ (by omega) ⟨?_, ⟨rfl, trivial⟩, rfl, rfl⟩
      ((repeat ((conv => whnf); first | refine ⟨e, ?_⟩ | refine ⟨rfl, ?_⟩)); trivial)
  have hjl : j = us.length := by rw [ltI_f] at j1; simp at j1; omega
  subst hjl
  have hfam2 : famOk ps us = shallow (depths ps) := by rw [hfam, hok, huok]; rfl
  ((repeat ((conv => whnf); first | refine brT ?_ | refine brF ?_)); conv => whnf)
  refine ⟨_, depthsOf_spec ps hl hpars, ?_⟩
  ((repeat ((conv => whnf); first | refine brT ?_ | refine brF ?_)); conv => whnf)
  intro hdn
  have hd' : (depths ps).length ≤ Go.maxLen := by simpa using hdn
  ((repeat ((conv => whnf); first | refine brT ?_ | refine brF ?_)); conv => whnf)
  refine loop_rule (α := Nat) (fun k => [(57, .int .i64 (k : Int))]) (fun k => [.box (famLV ps us)]) (fun k => (depths ps).length - k) (fun k => k ≤ (depths ps).length ∧ shallow ((depths ps).take k) = true) 0 ⟨Nat.zero_le _, rfl⟩ ?_ ?_
  · refine ⟨?_, ⟨rfl, trivial⟩, rfl, rfl⟩
    ((repeat ((conv => whnf); refine ⟨rfl, ?_⟩)); trivial)
  rintro i ⟨hi, hsh⟩
  ((repeat ((conv => whnf); first | refine brT ?_ | refine brF ?_)); conv => whnf)
  (refine ⟨fun d1 => ?_, fun d1 => ?_⟩ <;> rw [d1])
  · have hlt : i < (depths ps).length := by rw [ltI_t] at d1; simp at d1; omega
    have e := step_i hlt hd'
    ((repeat ((conv => whnf); first | refine brT ?_ | refine brF ?_)); conv => whnf)
    refine ⟨i, .int .i64 (depths ps)[i], rfl, by simp [hlt, intLV], rfl, ?_⟩
    ((repeat ((conv => whnf); first | refine brT ?_ | refine brF ?_)); conv => whnf)
    (refine ⟨fun d2 => ?_, fun d2 => ?_⟩ <;> rw [d2])
    · ((repeat ((conv => whnf); first | refine brT ?_ | refine brF ?_)); conv => whnf)
      refine fin ?_
      rw [hfam2, shallow_no hlt d2]
    · ((repeat ((conv => whnf); first | refine brT ?_ | refine brF ?_)); conv => whnf)
      refine round_end (i + 1) ⟨hlt, by rw [shallow_succ hlt, hsh, shallow_le d2]; rfl⟩ (by omega) ⟨?_, ⟨rfl, trivial⟩, rfl, rfl⟩
      ((repeat ((conv => whnf); first | refine ⟨e, ?_⟩ | refine ⟨rfl, ?_⟩)); trivial)
  · have hil : i = (depths ps).length := by rw [ltI_f] at d1; simp at d1; omega
    subst hil
    rw [List.take_length] at hsh
    ((repeat ((conv => whnf); first | refine brT ?_ | refine brF ?_)); conv => whnf)
    refine fin ?_
    rw [hfam2, hsh]

/-- Asked of the person in the family, or of the person behind those before: the same, if those before are valid. -/
theorem parentAt_eq {ps : List Per} {i : Nat} {x sex born late : Int} (hl : i < ps.length) (hok : personsTo ps i = true) (h0 : 0 ≤ born) (h1 : born ≤ 9999) (hs : (sex = 1 ∧ late = 1) ∨ (sex = 2 ∧ late = 0)) :
    parentAt ps i x sex late born = parentOk (ps.take i) x sex born := by
  unfold parentAt parentOk
  congr 1
  cases e0 : leI 0 x with
  | false => rfl
  | true =>
    rw [leI_t] at e0
    simp only [Bool.true_and]
    by_cases hx : x < i
    · have hxl : x.toNat < ps.length := by omega
      have e1 : ltI x i = true := ltI_t.2 hx
      have e2 : (ps.take i)[x.toNat]? = some ps[x.toNat] := by rw [List.getElem?_take_of_lt (by omega)]; exact List.getElem?_eq_getElem hxl
      rw [e1, e2, List.getElem?_eq_getElem hxl]
      simp only [Bool.true_and]
      have hq := personOk_spec (personsTo_get hok (i := x.toNat) (by omega) hxl)
      generalize ps[x.toNat] = q at hq ⊢
      congr 1
      congr 1
      have hd := hq.2.2.2.2.2.1
      have hb := hq.2.2.2.1
      rcases hs with ⟨rfl, rfl⟩ | ⟨rfl, rfl⟩
      · have w1 : IntKind.i64.wrap (q.died + 1) = q.died + 1 := wrap64 (by omega) (by omega)
        have w2 : IntKind.i64.wrap (born - 1) = born - 1 := wrap64 (by omega) (by omega)
        rw [show eqI (1 : Int) 1 = true from eqI_t.2 rfl]
        simp only [livedTo, w1, w2]
        congr 1
        rw [Bool.eq_iff_iff, leI_t, leI_t]
        omega
      · have w1 : IntKind.i64.wrap (q.died + 0) = q.died + 0 := wrap64 (by omega) (by omega)
        rw [show eqI (2 : Int) 1 = false from eqI_f.2 (by decide)]
        simp only [livedTo, w1]
        congr 1
        rw [Bool.eq_iff_iff, leI_t, leI_t]
        omega
    · have e1 : ltI x i = false := ltI_f.2 (by omega)
      have e2 : (ps.take i)[x.toNat]? = none := by rw [List.getElem?_eq_none]; simp; omega
      rw [e1, e2]
      rfl

theorem findFrom_fresh {n : ByteArray} : ∀ (ps : List Per) (i : Nat), (findFrom n i ps = none) ↔ (ps.all fun q => notB (eqS q.name n)) = true
  | [], _ => by simp [findFrom]
  | p :: ps, i => by
    simp only [findFrom, List.all_cons, Bool.and_eq_true]
    cases e : eqS p.name n
    · rw [findFrom_fresh ps (i + 1)]; simp [notB]
    · simp [notB]

theorem personAt_eq {ps : List Per} {i : Nat} (hl : i < ps.length) (hok : personsTo ps i = true) : personAt ps i ps[i] = personOk (ps.take i) ps[i] := by
  generalize ps[i] = p
  unfold personAt personOk fresh
  have hf := findFrom_fresh (n := p.name) (ps.take i) 0
  cases e : findFrom p.name 0 (ps.take i) with
  | some j =>
    have : ((ps.take i).all fun q => notB (eqS q.name p.name)) = false := by
      cases h : ((ps.take i).all fun q => notB (eqS q.name p.name)) with
      | false => rfl
      | true => rw [hf.2 h] at e; cases e
    rw [this]
    simp
  | none =>
    rw [hf.1 e]
    by_cases hb : 0 ≤ p.born ∧ p.born ≤ 9999
    · rw [parentAt_eq hl hok hb.1 hb.2 (.inl ⟨rfl, rfl⟩), parentAt_eq hl hok hb.1 hb.2 (.inr ⟨rfl, rfl⟩)]
      simp only [Bool.true_and]
      generalize parentOk (ps.take i) p.father 1 p.born = A
      generalize parentOk (ps.take i) p.mother 2 p.born = B
      unfold shapeOk endYear
      have : (leI 1 p.sex && leI p.sex 2) = (eqI p.sex 1 || eqI p.sex 2) := by
        rw [Bool.eq_iff_iff]; simp only [Bool.and_eq_true, Bool.or_eq_true, leI_t, eqI_t]; omega
      rw [this]
      generalize leI 0 p.born = a
      generalize leI p.born 9999 = b
      generalize isName p.name = c
      generalize (eqI p.sex 1 || eqI p.sex 2) = d
      generalize (eqI p.died (-1) || leI p.born p.died && leI p.died 9999) = e
      cases a <;> cases b <;> cases c <;> cases d <;> cases e <;> cases A <;> cases B <;> rfl
    · have hn : (leI 0 p.born && leI p.born 9999) = false := by
        cases h : (leI 0 p.born && leI p.born 9999) with
        | false => rfl
        | true => simp only [Bool.and_eq_true, leI_t] at h; exact absurd h hb
      have e1 : shapeOk p = false := by unfold shapeOk; rw [hn]; simp
      rw [e1]
      have : (leI 0 p.born && (leI p.born 9999 && endYear p.died p.born)) = false := by
        rw [← Bool.and_assoc, hn]; rfl
      rw [this]
      simp

/-- spec.IsFamily -/
theorem isFamily_spec (ps : List Per) (us : List Uni) : FSpec env.P 90 [famLV ps us] (.bool (famOk ps us)) := by
  refine FSpec_of_code env_ok (fn := Try.f90) Try.func90 rfl Try.call90 _ _ ?_
  ((repeat ((conv => whnf); first | refine brT ?_ | refine brF ?_)); conv => whnf)
  intro hpn
  ((repeat ((conv => whnf); first | refine brT ?_ | refine brF ?_)); conv => whnf)
  (refine ⟨fun h1 => ?_, fun h1 => ?_⟩ <;> rw [h1])
  · ((repeat ((conv => whnf); first | refine brT ?_ | refine brF ?_)); conv => whnf)
    refine fin ?_
    have : decide (ps.length ≤ 40) = false := by rw [ltI_t] at h1; simp at h1; simp; omega
    simp [famOk, this]
  have hl : ps.length ≤ 40 := by rw [ltI_f] at h1; simp at h1; omega
  ((repeat ((conv => whnf); first | refine brT ?_ | refine brF ?_)); conv => whnf)
  intro hun
  ((repeat ((conv => whnf); first | refine brT ?_ | refine brF ?_)); conv => whnf)
  (refine ⟨fun h2 => ?_, fun h2 => ?_⟩ <;> rw [h2])
  · ((repeat ((conv => whnf); first | refine brT ?_ | refine brF ?_)); conv => whnf)
    refine fin ?_
    have : decide (us.length ≤ 60) = false := by rw [ltI_t] at h2; simp at h2; simp; omega
    simp [famOk, this]
  have hul : us.length ≤ 60 := by rw [ltI_f] at h2; simp at h2; omega
  have hp' : ps.length ≤ Go.maxLen := by simpa using hpn
  have hu' : us.length ≤ Go.maxLen := by simpa using hun
  have hfam : famOk ps us = (personsTo ps ps.length && (unionsTo ps us us.length && shallow (depths ps))) := by simp [famOk, hl, hul]
  ((repeat ((conv => whnf); first | refine brT ?_ | refine brF ?_)); conv => whnf)
  intro _
  ((repeat ((conv => whnf); first | refine brT ?_ | refine brF ?_)); conv => whnf)
  refine loop_rule (α := Nat) (fun k => [(20, .int .i64 (k : Int))]) (fun k => [.box (famLV ps us)]) (fun k => ps.length - k) (fun k => k ≤ ps.length ∧ personsTo ps k = true) 0 ⟨Nat.zero_le _, rfl⟩ ?_ ?_
  · refine ⟨?_, ⟨rfl, trivial⟩, rfl, rfl⟩
    ((repeat ((conv => whnf); refine ⟨rfl, ?_⟩)); trivial)
  rintro k ⟨hk, hok⟩
  ((repeat ((conv => whnf); first | refine brT ?_ | refine brF ?_)); conv => whnf)
  (refine ⟨fun g1 => ?_, fun g1 => ?_⟩ <;> rw [g1])
  · have hlt : k < ps.length := by rw [ltI_t] at g1; simp at g1; omega
    have e := step_i hlt hp'
    have hpe := personAt_eq hlt hok
    ((repeat ((conv => whnf); first | refine brT ?_ | refine brF ?_)); conv => whnf)
    refine ⟨_, l1Person_spec ps us k hlt hl, ?_⟩
    rw [hpe]
    ((repeat ((conv => whnf); first | refine brT ?_ | refine brF ?_)); conv => whnf)
    (refine ⟨fun g2 => ?_, fun g2 => ?_⟩ <;> rw [g2])
    · rw [notB_t] at g2
      ((repeat ((conv => whnf); first | refine brT ?_ | refine brF ?_)); conv => whnf)
      refine fin ?_
      rw [hfam, personsTo_no hlt hlt g2]
      rfl
    · rw [notB_f] at g2
      ((repeat ((conv => whnf); first | refine brT ?_ | refine brF ?_)); conv => whnf)
      refine round_end (k + 1) ⟨hlt, by rw [personsTo_succ hlt, hok, g2]; rfl⟩ (by omega) ⟨?_, ⟨rfl, trivial⟩, rfl, rfl⟩
      ((repeat ((conv => whnf); first | refine ⟨e, ?_⟩ | refine ⟨rfl, ?_⟩)); trivial)
  have hkl : k = ps.length := by rw [ltI_f] at g1; simp at g1; omega
  subst hkl
  have hpars := parsIn_of hok
  ((repeat ((conv => whnf); first | refine brT ?_ | refine brF ?_)); conv => whnf)
  refine ⟨_, l1Depths_spec ps us hl hpars, ?_⟩
  ((repeat ((conv => whnf); first | refine brT ?_ | refine brF ?_)); conv => whnf)
  intro hdn
  have hd' : (depths ps).length ≤ Go.maxLen := by simpa using hdn
  ((repeat ((conv => whnf); first | refine brT ?_ | refine brF ?_)); conv => whnf)
  refine loop_rule (α := Nat) (fun k => [(31, .int .i64 (k : Int))]) (fun k => [.box (famLV ps us)]) (fun k => (depths ps).length - k) (fun k => k ≤ (depths ps).length ∧ shallow ((depths ps).take k) = true) 0 ⟨Nat.zero_le _, rfl⟩ ?_ ?_
  · refine ⟨?_, ⟨rfl, trivial⟩, rfl, rfl⟩
    ((repeat ((conv => whnf); refine ⟨rfl, ?_⟩)); trivial)
  rintro i ⟨hi, hsh⟩
  ((repeat ((conv => whnf); first | refine brT ?_ | refine brF ?_)); conv => whnf)
  (refine ⟨fun d1 => ?_, fun d1 => ?_⟩ <;> rw [d1])
  · have hlt : i < (depths ps).length := by rw [ltI_t] at d1; simp at d1; omega
    have e := step_i hlt hd'
    ((repeat ((conv => whnf); first | refine brT ?_ | refine brF ?_)); conv => whnf)
    refine ⟨i, .int .i64 (depths ps)[i], rfl, by simp [hlt, intLV], rfl, ?_⟩
    ((repeat ((conv => whnf); first | refine brT ?_ | refine brF ?_)); conv => whnf)
    (refine ⟨fun d2 => ?_, fun d2 => ?_⟩ <;> rw [d2])
    · ((repeat ((conv => whnf); first | refine brT ?_ | refine brF ?_)); conv => whnf)
      refine fin ?_
      rw [hfam, shallow_no hlt d2]
      simp
    · ((repeat ((conv => whnf); first | refine brT ?_ | refine brF ?_)); conv => whnf)
      refine round_end (i + 1) ⟨hlt, by rw [shallow_succ hlt, hsh, shallow_le d2]; rfl⟩ (by omega) ⟨?_, ⟨rfl, trivial⟩, rfl, rfl⟩
      ((repeat ((conv => whnf); first | refine ⟨e, ?_⟩ | refine ⟨rfl, ?_⟩)); trivial)
  have hil : i = (depths ps).length := by rw [ltI_f] at d1; simp at d1; omega
  subst hil
  rw [List.take_length] at hsh
  ((repeat ((conv => whnf); first | refine brT ?_ | refine brF ?_)); conv => whnf)
  intro _
  ((repeat ((conv => whnf); first | refine brT ?_ | refine brF ?_)); conv => whnf)
  refine loop_rule (α := Nat) (fun k => [(41, .int .i64 (k : Int))]) (fun k => [.box (famLV ps us)]) (fun k => us.length - k) (fun k => k ≤ us.length ∧ unionsTo ps us k = true) 0 ⟨Nat.zero_le _, rfl⟩ ?_ ?_
  · refine ⟨?_, ⟨rfl, trivial⟩, rfl, rfl⟩
    ((repeat ((conv => whnf); refine ⟨rfl, ?_⟩)); trivial)
  rintro j ⟨hj, huok⟩
  ((repeat ((conv => whnf); first | refine brT ?_ | refine brF ?_)); conv => whnf)
  (refine ⟨fun j1 => ?_, fun j1 => ?_⟩ <;> rw [j1])
  · have hlt : j < us.length := by rw [ltI_t] at j1; simp at j1; omega
    have e := step_i hlt hu'
    ((repeat ((conv => whnf); first | refine brT ?_ | refine brF ?_)); conv => whnf)
    refine ⟨_, l1Union_spec ps us j hlt hl hul, ?_⟩
    ((repeat ((conv => whnf); first | refine brT ?_ | refine brF ?_)); conv => whnf)
    (refine ⟨fun j2 => ?_, fun j2 => ?_⟩ <;> rw [j2])
    · rw [notB_t] at j2
      ((repeat ((conv => whnf); first | refine brT ?_ | refine brF ?_)); conv => whnf)
      refine fin ?_
      rw [hfam, unionsTo_no hlt hlt j2]
      simp
    · rw [notB_f] at j2
      ((repeat ((conv => whnf); first | refine brT ?_ | refine brF ?_)); conv => whnf)
      refine round_end (j + 1) ⟨hlt, by rw [unionsTo_succ hlt, huok, j2]; rfl⟩ (by omega) ⟨?_, ⟨rfl, trivial⟩, rfl, rfl⟩
      ((repeat ((conv => whnf); first | refine ⟨e, ?_⟩ | refine ⟨rfl, ?_⟩)); trivial)
  have hjl : j = us.length := by rw [ltI_f] at j1; simp at j1; omega
  subst hjl
  ((repeat ((conv => whnf); first | refine brT ?_ | refine brF ?_)); conv => whnf)
  refine fin ?_
  rw [hfam, hok, huok, hsh]
  rfl
end Go.Proofs.Ytbiagkccgijdlaa


namespace Go.Proofs.Ytbiagkccgijdlaa
open Go.Lg
set_option maxHeartbeats 800000
set_option maxRecDepth 10000
set_option linter.unusedVariables false
set_option linter.unusedSimpArgs false

/-- The family is valid and has the person. -/
def hasP (ps : List Per) (us : List Uni) (p : Int) : Bool := leI 0 p && (ltI p (ps.length : Int) && famOk ps us)
theorem l1Has_spec (ps : List Per) (us : List Uni) (p : Int) : FSpec env.P 57 [famLV ps us, .int .i64 p] (.bool (hasP ps us p)) := by
  refine FSpec_of_code env_ok (fn := Try.f57) Try.func57 rfl Try.call57 _ _ ?_
  ((repeat ((conv => whnf); first | refine brT ?_ | refine brF ?_)); conv => whnf)
  (refine ⟨fun h1 => ?_, fun h1 => ?_⟩ <;> rw [h1])
  · ((repeat ((conv => whnf); first | refine brT ?_ | refine brF ?_)); conv => whnf)
    intro hn
    ((repeat' (((repeat ((conv => whnf); first | refine brT ?_ | refine brF ?_)); conv => whnf); first | (refine And.intro ?_ ?_ <;> (intro h; rw [h]; revert h; intro _)) | (refine Exists.intro true (And.intro (a := drawB _ _ = true) (by kernel_rfl) ?_)) | (refine Exists.intro _ (And.intro (isFamily_spec ps us) ?_)))); all_goals ((repeat ((conv => whnf); first | refine brT ?_ | refine brF ?_)); conv => whnf))
    all_goals (refine fin ?_; simp_all [hasP])
  · ((repeat ((conv => whnf); first | refine brT ?_ | refine brF ?_)); conv => whnf)
    refine fin ?_; simp [hasP, h1]
theorem hasPerson_spec (ps : List Per) (us : List Uni) (p : Int) : FSpec env.P 61 [famLV ps us, .int .i64 p] (.bool (hasP ps us p)) := by
  refine FSpec_of_code env_ok (fn := Try.f61) Try.func61 rfl Try.call61 _ _ ?_
  ((repeat ((conv => whnf); first | refine brT ?_ | refine brF ?_)); conv => whnf)
  (refine ⟨fun h1 => ?_, fun h1 => ?_⟩ <;> rw [h1])
  · ((repeat ((conv => whnf); first | refine brT ?_ | refine brF ?_)); conv => whnf)
    intro hn
    ((repeat' (((repeat ((conv => whnf); first | refine brT ?_ | refine brF ?_)); conv => whnf); first | (refine And.intro ?_ ?_ <;> (intro h; rw [h]; revert h; intro _)) | (refine Exists.intro true (And.intro (a := drawB _ _ = true) (by kernel_rfl) ?_)) | (refine Exists.intro _ (And.intro (isFamily_impl ps us) ?_)))); all_goals ((repeat ((conv => whnf); first | refine brT ?_ | refine brF ?_)); conv => whnf))
    all_goals (refine fin ?_; simp_all [hasP])
  · ((repeat ((conv => whnf); first | refine brT ?_ | refine brF ?_)); conv => whnf)
    refine fin ?_; simp [hasP, h1]
theorem hasP_lt {ps : List Per} {us : List Uni} {p : Int} (h : hasP ps us p = true) : 0 ≤ p ∧ p.toNat < ps.length ∧ famOk ps us = true := by
  unfold hasP at h
  simp only [Bool.and_eq_true, leI_t, ltI_t] at h
  exact ⟨h.1, by omega, h.2.2⟩
theorem famOk_parts {ps : List Per} {us : List Uni} (h : famOk ps us = true) : ps.length ≤ 40 ∧ us.length ≤ 60 ∧ personsTo ps ps.length = true ∧ unionsTo ps us us.length = true ∧ shallow (depths ps) = true := by
  unfold famOk at h
  simpa only [Bool.and_eq_true, decide_eq_true_eq] using h

/-- IsElder -/
def elder (ps : List Per) (a b : Int) : Bool := match ps[a.toNat]?, ps[b.toNat]? with
  | some x, some y => ltI x.born y.born || (eqI x.born y.born && ltI a b)
  | _, _ => false
theorem l1Elder_spec (ps : List Per) (us : List Uni) (a b : Int) (a0 : 0 ≤ a) (al : a.toNat < ps.length) (b0 : 0 ≤ b) (bl : b.toNat < ps.length) :
    FSpec env.P 135 [famLV ps us, .int .i64 a, .int .i64 b] (.bool (elder ps a b)) := by
  refine FSpec_of_code env_ok (fn := Try.f135) Try.func135 rfl Try.call135 _ _ ?_
  have he : elder ps a b = (ltI ps[a.toNat].born ps[b.toNat].born || (eqI ps[a.toNat].born ps[b.toNat].born && ltI a b)) := by simp [elder, al, bl]
  ((repeat ((conv => whnf); first | refine brT ?_ | refine brF ?_)); conv => whnf)
  refine ⟨a.toNat, ps[a.toNat].lv, by omega, by simp [al], rfl, ?_⟩
  ((repeat ((conv => whnf); first | refine brT ?_ | refine brF ?_)); conv => whnf)
  refine ⟨b.toNat, ps[b.toNat].lv, by omega, by simp [bl], rfl, ?_⟩
  ((repeat' (((repeat ((conv => whnf); first | refine brT ?_ | refine brF ?_)); conv => whnf); (refine And.intro ?_ ?_ <;> (intro h; rw [h]; revert h; intro _)))); all_goals ((repeat ((conv => whnf); first | refine brT ?_ | refine brF ?_)); conv => whnf))
  all_goals (refine fin ?_; simp [*])
def cmpI (a b : Int) : Int := match ltI a b with | true => -1 | false => match ltI b a with | true => 1 | false => 0
theorem isNaN_spec (a : Int) : FSpec env.P 134 [.int .i64 a] (.bool false) := by
  refine FSpec_of_code env_ok (fn := Try.f134) Try.func134 rfl Try.call134 _ _ ?_
  ((repeat ((conv => whnf); first | refine brT ?_ | refine brF ?_)); conv => whnf)
  exact fin (by simp [notB, eqI_refl])
theorem compare_spec (a b : Int) : FSpec env.P 114 [.int .i64 a, .int .i64 b] (.int .i64 (cmpI a b)) := by
  refine FSpec_of_code env_ok (fn := Try.f114) Try.func114 rfl Try.call114 _ _ ?_
  ((repeat' (((repeat ((conv => whnf); first | refine brT ?_ | refine brF ?_)); conv => whnf); first | (refine And.intro ?_ ?_ <;> (intro h; rw [h]; revert h; intro _)) | (refine Exists.intro true (And.intro (a := drawB _ _ = true) (by kernel_rfl) ?_)) | (refine Exists.intro _ (And.intro (isNaN_spec _) ?_)))); all_goals ((repeat ((conv => whnf); first | refine brT ?_ | refine brF ?_)); conv => whnf))
  all_goals
    refine ⟨rfl, ?_, List.nodup_nil⟩
    simp [cmpI, *]
def orI (a b : Int) : Int := match eqI a 0 with | true => b | false => a
theorem or_spec (a b : Int) : FSpec env.P 113 [.sl [.int .i64 a, .int .i64 b]] (.int .i64 (orI a b)) := by
  refine FSpec_of_code env_ok (fn := Try.f113) Try.func113 rfl Try.call113 _ _ ?_
  ((repeat ((conv => whnf); first | refine brT ?_ | refine brF ?_)); conv => whnf)
  intro _
  ((repeat ((conv => whnf); first | refine brT ?_ | refine brF ?_)); conv => whnf)
  refine loop_rule (α := Nat) (fun k => [(8, .int .i64 (k : Int))]) (fun k => []) (fun k => 2 - k) (fun k => k ≤ 2 ∧ (1 ≤ k → a = 0) ∧ (2 ≤ k → b = 0)) 0 ⟨by omega, by omega, by omega⟩ ?_ ?_
  · refine ⟨?_, trivial, rfl, rfl⟩
    ((repeat ((conv => whnf); refine ⟨rfl, ?_⟩)); trivial)
  rintro k ⟨hk, ha, hb⟩
  ((repeat ((conv => whnf); first | refine brT ?_ | refine brF ?_)); conv => whnf)
  (refine ⟨fun h1 => ?_, fun h1 => ?_⟩ <;> rw [h1])
  · have hlt : k < 2 := by rw [ltI_t] at h1; simp at h1; omega
    have e : LV.int .i64 (IntKind.i64.wrap ((k : Int) + 1)) = LV.int .i64 ((k + 1 : Nat) : Int) := step_i hlt (by decide)
    ((repeat ((conv => whnf); first | refine brT ?_ | refine brF ?_)); conv => whnf)
    refine ⟨k, .int .i64 ([a, b][k]'hlt), rfl, ?_, rfl, ?_⟩
    · match k, hlt with
      | 0, _ => rfl
      | 1, _ => rfl
    ((repeat ((conv => whnf); first | refine brT ?_ | refine brF ?_)); conv => whnf)
    (refine ⟨fun h2 => ?_, fun h2 => ?_⟩ <;> rw [h2])
    · ((repeat ((conv => whnf); first | refine brT ?_ | refine brF ?_)); conv => whnf)
      refine ⟨rfl, ?_, List.nodup_nil⟩
      rw [notB_t] at h2
      match k, hlt, h2 with
      | 0, _, h2 => simp at h2; simp [orI, h2]
      | 1, _, h2 => have := ha (by omega); subst this; simp [orI, eqI_refl]
    · rw [notB_f, eqI_t] at h2
      ((repeat ((conv => whnf); first | refine brT ?_ | refine brF ?_)); conv => whnf)
      refine round_end (k + 1) ⟨hlt, fun _ => ?_, fun h => ?_⟩ (by omega) ⟨?_, trivial, rfl, rfl⟩
      · match k, hlt, h2 with
        | 0, _, h2 => simpa using h2
        | 1, _, h2 => exact ha (by omega)
      · match k, hlt, h2, h with
        | 1, _, h2, _ => simpa using h2
      · ((repeat ((conv => whnf); first | refine ⟨e, ?_⟩ | refine ⟨rfl, ?_⟩)); trivial)
  · have h3 : k = 2 := by rw [ltI_f] at h1; simp at h1; omega
    subst h3
    have := ha (by omega)
    have := hb (by omega)
    subst a; subst b
    ((repeat ((conv => whnf); first | refine brT ?_ | refine brF ?_)); conv => whnf)
    exact ⟨rfl, by simp [orI, eqI_refl], List.nodup_nil⟩
def ageI (ps : List Per) (a b : Int) : Int := match ps[a.toNat]?, ps[b.toNat]? with
  | some x, some y => orI (cmpI x.born y.born) (cmpI a b)
  | _, _ => 0
theorem compareAge_spec (ps : List Per) (us : List Uni) (a b : Int) (a0 : 0 ≤ a) (al : a.toNat < ps.length) (b0 : 0 ≤ b) (bl : b.toNat < ps.length) :
    FSpec env.P 79 [famLV ps us, .int .i64 a, .int .i64 b] (.int .i64 (ageI ps a b)) := by
  refine FSpec_of_code env_ok (fn := Try.f79) Try.func79 rfl Try.call79 _ _ ?_
  have he : ageI ps a b = orI (cmpI ps[a.toNat].born ps[b.toNat].born) (cmpI a b) := by simp [ageI, al, bl]
  ((repeat ((conv => whnf); first | refine brT ?_ | refine brF ?_)); conv => whnf)
  refine ⟨true, by kernel_rfl, ?_⟩
  ((repeat ((conv => whnf); first | refine brT ?_ | refine brF ?_)); conv => whnf)
  refine ⟨a.toNat, ps[a.toNat].lv, by omega, by simp [al], rfl, ?_⟩
  ((repeat ((conv => whnf); first | refine brT ?_ | refine brF ?_)); conv => whnf)
  refine ⟨b.toNat, ps[b.toNat].lv, by omega, by simp [bl], rfl, ?_⟩
  ((repeat ((conv => whnf); first | refine brT ?_ | refine brF ?_)); conv => whnf)
  refine ⟨_, compare_spec _ _, ?_⟩
  ((repeat ((conv => whnf); first | refine brT ?_ | refine brF ?_)); conv => whnf)
  refine ⟨_, compare_spec _ _, ?_⟩
  ((repeat ((conv => whnf); first | refine brT ?_ | refine brF ?_)); conv => whnf)
  refine ⟨rfl, ?_⟩
  ((repeat ((conv => whnf); first | refine brT ?_ | refine brF ?_)); conv => whnf)
  refine ⟨_, or_spec _ _, ?_⟩
  ((repeat ((conv => whnf); first | refine brT ?_ | refine brF ?_)); conv => whnf)
  exact ⟨rfl, he.symm, List.nodup_nil⟩
theorem age_elder (ps : List Per) (a b : Int) : ltI (ageI ps a b) 0 = elder ps a b := by
  unfold ageI elder
  split
  · rename_i x y _ _
    rw [Bool.eq_iff_iff]
    simp only [ltI_t, Bool.or_eq_true, Bool.and_eq_true, eqI_t]
    unfold orI cmpI
    grind [ltI_t, ltI_f, eqI_t, eqI_f]
  · rw [ltI_f]; omega
/-- IsAlive -/
def aliveIn (p : Per) (y : Int) : Bool := leI p.born y && (eqI p.died (-1) || ltI y p.died)
def alive (ps : List Per) (us : List Uni) (p y : Int) : Bool := hasP ps us p && match ps[p.toNat]? with | some x => aliveIn x y | none => false
end Go.Proofs.Ytbiagkccgijdlaa

namespace Go.Proofs.Ytbiagkccgijdlaa
open Go.Lg
set_option maxHeartbeats 1600000
set_option maxRecDepth 10000
set_option linter.unusedVariables false
set_option linter.unusedSimpArgs false

/-! A rule: its name, its sex and place, the steps that it replaces and by which. -/
structure Rul where
  name : ByteArray
  sex : Int
  place : Int
  fr : List Pr
  to : List Pr
def Rul.lv (r : Rul) : LV := .st [.str r.name, .int .i64 r.sex, .int .i64 r.place, .sl (r.fr.map Pr.lv), .sl (r.to.map Pr.lv)]
def Rul.own (r : Rul) (e : Nat) : LV := .st [.str r.name, .int .i64 r.sex, .int .i64 r.place, .own e 2 (r.fr.map Pr.lv), .own e 2 (r.to.map Pr.lv)]
def Rul.eq (r s : Rul) : Bool := eqS r.name s.name && (eqI r.sex s.sex && (eqI r.place s.place && (eqList Pr.eq r.fr s.fr && eqList Pr.eq r.to s.to)))
theorem Rul.eq_refl (r : Rul) : r.eq r = true := by simp [Rul.eq, eqS_refl, eqI_refl, eqPairS_refl]

/-! Comparisons of steps. -/
end Go.Proofs.Ytbiagkccgijdlaa

