/- Contracts of functions of the program and of its model, told over readings. -/
import Derived.Test.YtbiagkccgijdlaaBWGD
import Derived.Test.YtbiagkccgijdlaaBWGA
import Derived.Test.YtbiagkccgijdlaaBLgW
import Derived.Test.YtbiagkccgijdlaaBWGC
namespace Go.Proofs.Ytbiagkccgijdlaa
open Go.Lg Go.Pm
set_option maxHeartbeats 3200000
set_option maxRecDepth 10000
set_option linter.unusedVariables false
set_option linter.unusedSimpArgs false

/-! ### The model's way to the children in order -/
def ofTo (ps : List Per) (yo : Bool) (l : List Nat) (s : Int) (k : Nat) : List Nat := turnL yo ((l.take k).filter (sexOf ps s))
theorem ofTo_len (ps : List Per) (yo : Bool) (l : List Nat) (s : Int) (k : Nat) : (ofTo ps yo l s k).length ≤ l.length := by
  unfold ofTo
  rw [turnL_len]
  refine Nat.le_trans (List.length_filter_le _ _) ?_
  rw [List.length_take]; omega
theorem ofTo_no {ps : List Per} {yo : Bool} {l : List Nat} {s : Int} {k : Nat} (h : k < l.length) (e : sexOf ps s l[k] = false) : ofTo ps yo l s (k + 1) = ofTo ps yo l s k := by
  unfold ofTo
  rw [List.take_succ_eq_append_getElem h, List.filter_append]
  simp [e]
theorem ofTo_old {ps : List Per} {l : List Nat} {s : Int} {k : Nat} (h : k < l.length) (e : sexOf ps s l[k] = true) : ofTo ps false l s (k + 1) = ofTo ps false l s k ++ [l[k]] := by
  unfold ofTo turnL
  rw [List.take_succ_eq_append_getElem h, List.filter_append]
  simp [e]
theorem ofTo_new {ps : List Per} {l : List Nat} {s : Int} {k : Nat} (h : k < l.length) (e : sexOf ps s l[k] = true) : ofTo ps true l s (k + 1) = l[k] :: ofTo ps true l s k := by
  unfold ofTo turnL
  rw [List.take_succ_eq_append_getElem h, List.filter_append]
  simp [e]
theorem l10Of_h (ps : List Per) (us : List Uni) (x : Cus) (l : List Nat) (s : Int) (hb : l.length ≤ 1048576) (hL : ∀ q ∈ l, q < ps.length) :
    HSpec env.P 91 [famLV ps us, x.lv, natsSl l, .int .i64 s] [] (.hs 0 ((ofL ps x l s).map natLV).length) [.arr 3 1 ((ofL ps x l s).map natLV)] := by
  refine HSpec_of_code (E := env.x [] 0) env_ok.x (fn := Try.f91) Try.func91 rfl Try.call91 _ _ _ _ ?_
  have hN := nats_len l
  have hl' : l.length ≤ Go.maxLen := by unfold Go.maxLen; omega
  have hE : ofL ps x l s = ofTo ps x.young l s l.length := by unfold ofL ofTo; rw [List.take_length]
  rw [hE]
  obtain ⟨pr, yo, re⟩ := x
  unfold natsSl
  simp only
  ((repeat ((conv => whnf); first | refine brT ?_ | refine brF ?_)); conv => whnf)
  intro _
  rw [hN]
  ((repeat ((conv => whnf); first | refine brT ?_ | refine brF ?_)); conv => whnf)
  refine loop_ruleR (α := Nat) [.old 0, .old 1, .old 2] (fun k => [(15, .int .i64 (k : Int)), (12, .undef), (9, .hs 2 ((ofTo ps yo l s k).map natLV).length)]) (fun k => [.box (famLV ps us), .box (.st [.int .i64 pr, .bool yo, .bool re]), .arr 3 1 ((ofTo ps yo l s k).map natLV)]) (fun k => l.length - k) (fun k => k ≤ l.length) 0 (Nat.zero_le _) ?_ ?_
  · have e0 : ofTo ps yo l s 0 = [] := by unfold ofTo; cases yo <;> rfl
    refine ⟨?_, ⟨rfl, rfl, rfl, rfl, rfl, congrArg (fun l : List Nat => Blk.arr 3 1 (l.map natLV)) e0.symm, trivial⟩, rfl⟩
    have e1 : LV.hs 2 0 = LV.hs 2 ((ofTo ps yo l s 0).map natLV).length := by rw [e0]; rfl
    repeat ((conv => whnf); first | refine ⟨rfl, e1, ?_⟩ | refine ⟨rfl, rfl, ?_⟩)
    trivial
  intro k hk
  generalize hK : kk _ = KK
  have hol := ofTo_len ps yo l s k
  have hol1 := ofTo_len ps yo l s (k + 1)
  ((repeat ((conv => whnf); first | refine brT ?_ | refine brF ?_)); conv => whnf)
  (refine ⟨fun g1 => ?_, fun g1 => ?_⟩ <;> rw [g1])
  · have hlt : k < l.length := by rw [ltI_t] at g1; omega
    have e := step_i hlt hl'
    have hq : l[k] < ps.length := hL _ (List.getElem_mem hlt)
    have hg : (l.map natLV)[k]? = some (natLV l[k]) := by simp [hlt]
    have hgp : (ps.map Per.lv)[l[k]]? = some ps[l[k]].lv := by simp [hq]
    have hsx : sexD ps l[k] = ps[l[k]].sex := by simp [sexD, hq]
    have hsq : sexOf ps s l[k] = notB (notB (eqI s 0) && notB (eqI ps[l[k]].sex s)) := by unfold sexOf; rw [hsx]
    have n0 := ofTo_no (ps := ps) (yo := yo) (s := s) hlt
    have n1 := ofTo_old (ps := ps) (s := s) hlt
    have n2 := ofTo_new (ps := ps) (s := s) hlt
    generalize l[k] = q at hq hg hgp hsq n0 n1 n2
    generalize ps[q] = y at hgp hsq
    obtain ⟨nm, sx, fa, mo, bo, di⟩ := y
    simp only at hsq
    ((repeat ((conv => whnf); first | refine brT ?_ | refine brF ?_)); conv => whnf)
    refine ⟨k, _, rfl, hg, rfl, ?_⟩
    rw [show natLV q = .int .i64 (q : Int) from rfl]
    ((repeat ((conv => whnf); first | refine brT ?_ | refine brF ?_)); conv => whnf)
    cases g2 : eqI s 0
    · rw [show notB false = true by simp [notB]]
      ((repeat ((conv => whnf); first | refine brT ?_ | refine brF ?_)); conv => whnf)
      refine ⟨q, _, rfl, hgp, rfl, ?_⟩
      ((repeat ((conv => whnf); first | refine brT ?_ | refine brF ?_)); conv => whnf)
      cases g3 : eqI sx s
      · rw [show notB false = true by simp [notB]]
        ((repeat ((conv => whnf); first | refine brT ?_ | refine brF ?_)); conv => whnf)
        subst hK
        have e2 := n0 (by rw [hsq, g2, g3]; simp [notB])
        have e3 : LV.hs 2 ((ofTo ps yo l s k).map natLV).length = LV.hs 2 ((ofTo ps yo l s (k + 1)).map natLV).length := by rw [e2]
        refine round_endR [.old 0, .old 1, .old 2] (k + 1) hlt (by omega) ⟨?_, ⟨rfl, rfl, rfl, rfl, rfl, congrArg (fun l : List Nat => Blk.arr 3 1 (l.map natLV)) e2.symm, trivial⟩, rfl⟩
        repeat ((conv => whnf); first | refine ⟨rfl, e, ?_⟩ | refine ⟨rfl, e3, ?_⟩ | refine ⟨rfl, rfl, ?_⟩)
        trivial
      · rw [show notB true = false by simp [notB]]
        ((repeat ((conv => whnf); first | refine brT ?_ | refine brF ?_)); conv => whnf)
        have hq1 : sexOf ps s q = true := by rw [hsq, g2, g3]; simp [notB]
        cases yo
        · have e2 : (ofTo ps false l s k).map natLV ++ [LV.int .i64 (q : Int)] = (ofTo ps false l s (k + 1)).map natLV := by rw [n1 hq1, List.map_append]; rfl
          ((repeat ((conv => whnf); first | refine brT ?_ | refine brF ?_)); conv => whnf)
          refine ⟨rfl, rfl, ?_, ?_, ?_⟩
          · rw [e2, List.length_map]; unfold Go.maxLen; omega
          · rw [e2, List.length_map]; show (ofTo ps false l s (k + 1)).length * 8 ≤ _; omega
          rw [e2]
          ((repeat ((conv => whnf); first | refine brT ?_ | refine brF ?_)); conv => whnf)
          subst hK
          refine round_endR [.old 0, .old 1, .old 4] (k + 1) hlt (by omega) ⟨?_, ⟨rfl, rfl, rfl, rfl, rfl, rfl, trivial⟩, rfl⟩
          repeat ((conv => whnf); first | refine ⟨rfl, e, ?_⟩ | refine ⟨rfl, rfl, ?_⟩)
          trivial
        · have e2 : [LV.int .i64 (q : Int)] ++ (ofTo ps true l s k).map natLV = (ofTo ps true l s (k + 1)).map natLV := by rw [n2 hq1]; rfl
          ((repeat ((conv => whnf); first | refine brT ?_ | refine brF ?_)); conv => whnf)
          refine ⟨rfl, ?_⟩
          ((repeat ((conv => whnf); first | refine brT ?_ | refine brF ?_)); conv => whnf)
          refine ⟨rfl, ?_, ?_, ?_⟩
          · rw [e2, List.length_map]; unfold Go.maxLen; omega
          · rw [e2, List.length_map]; show (ofTo ps true l s (k + 1)).length * 8 ≤ _; omega
          rw [e2]
          ((repeat ((conv => whnf); first | refine brT ?_ | refine brF ?_)); conv => whnf)
          subst hK
          refine round_endR [.old 0, .old 1, .old 4] (k + 1) hlt (by omega) ⟨?_, ⟨rfl, rfl, rfl, rfl, rfl, rfl, trivial⟩, rfl⟩
          repeat ((conv => whnf); first | refine ⟨rfl, e, ?_⟩ | refine ⟨rfl, rfl, ?_⟩)
          trivial
    · rw [show notB true = false by simp [notB]]
      ((repeat ((conv => whnf); first | refine brT ?_ | refine brF ?_)); conv => whnf)
      have hq1 : sexOf ps s q = true := by rw [hsq, g2]; simp [notB]
      cases yo
      · have e2 : (ofTo ps false l s k).map natLV ++ [LV.int .i64 (q : Int)] = (ofTo ps false l s (k + 1)).map natLV := by rw [n1 hq1, List.map_append]; rfl
        ((repeat ((conv => whnf); first | refine brT ?_ | refine brF ?_)); conv => whnf)
        refine ⟨rfl, rfl, ?_, ?_, ?_⟩
        · rw [e2, List.length_map]; unfold Go.maxLen; omega
        · rw [e2, List.length_map]; show (ofTo ps false l s (k + 1)).length * 8 ≤ _; omega
        rw [e2]
        ((repeat ((conv => whnf); first | refine brT ?_ | refine brF ?_)); conv => whnf)
        subst hK
        refine round_endR [.old 0, .old 1, .old 4] (k + 1) hlt (by omega) ⟨?_, ⟨rfl, rfl, rfl, rfl, rfl, rfl, trivial⟩, rfl⟩
        repeat ((conv => whnf); first | refine ⟨rfl, e, ?_⟩ | refine ⟨rfl, rfl, ?_⟩)
        trivial
      · have e2 : [LV.int .i64 (q : Int)] ++ (ofTo ps true l s k).map natLV = (ofTo ps true l s (k + 1)).map natLV := by rw [n2 hq1]; rfl
        ((repeat ((conv => whnf); first | refine brT ?_ | refine brF ?_)); conv => whnf)
        refine ⟨rfl, ?_⟩
        ((repeat ((conv => whnf); first | refine brT ?_ | refine brF ?_)); conv => whnf)
        refine ⟨rfl, ?_, ?_, ?_⟩
        · rw [e2, List.length_map]; unfold Go.maxLen; omega
        · rw [e2, List.length_map]; show (ofTo ps true l s (k + 1)).length * 8 ≤ _; omega
        rw [e2]
        ((repeat ((conv => whnf); first | refine brT ?_ | refine brF ?_)); conv => whnf)
        subst hK
        refine round_endR [.old 0, .old 1, .old 4] (k + 1) hlt (by omega) ⟨?_, ⟨rfl, rfl, rfl, rfl, rfl, rfl, trivial⟩, rfl⟩
        repeat ((conv => whnf); first | refine ⟨rfl, e, ?_⟩ | refine ⟨rfl, rfl, ?_⟩)
        trivial
  have h4 : k = l.length := by rw [ltI_f] at g1; omega
  subst h4
  subst hK
  ((repeat ((conv => whnf); first | refine brT ?_ | refine brF ?_)); conv => whnf)
  exact ⟨[.hs 0 ((ofTo ps yo l s l.length).map natLV).length], rfl, rfl, .inr ⟨[.old 2], ⟨rfl, rfl, trivial⟩, ⟨rfl, rfl, trivial⟩, rfl⟩⟩
end Go.Proofs.Ytbiagkccgijdlaa


namespace Go.Proofs.Ytbiagkccgijdlaa
open Go.Lg Go.Pm
set_option maxHeartbeats 3200000
set_option maxRecDepth 10000
set_option linter.unusedVariables false
set_option linter.unusedSimpArgs false

theorem l10Children_h (ps : List Per) (us : List Uni) (x : Cus) (p : Int) (hl : ps.length ≤ 40) :
    HSpec env.P 58 [famLV ps us, x.lv, .int .i64 p] [] (.hs 0 ((chlL ps x p).map natLV).length) [.arr 3 1 ((chlL ps x p).map natLV)] := by
  refine HSpec_of_code (E := env.x [81, 91] 0) env_ok.x (fn := Try.f58) Try.func58 rfl Try.call58 _ _ _ _ ?_
  have hC := l1Children_h ps us p hl
  have hCl := eldL_len ps (chQ ps p) ps.length
  have hCm : ∀ q ∈ eldL ps (chQ ps p) ps.length, q < ps.length := fun q hq => (eldL_mem.1 hq).1
  have hB : ∀ s, (ofL ps x (eldL ps (chQ ps p) ps.length) s).length ≤ 40 := fun s => by
    unfold ofL; rw [turnL_len]
    exact Nat.le_trans (List.length_filter_le _ _) (by omega)
  unfold chlL
  have hO := fun s => l10Of_h ps us x (eldL ps (chQ ps p) ps.length) s (by omega) hCm
  have g : ∀ L : List Nat, L = eldL ps (chQ ps p) ps.length → L = eldL ps (chQ ps p) ps.length := fun _ h => h
  generalize eldL ps (chQ ps p) ps.length = L at hC hCl hCm hB hO ⊢
  clear g
  have hE : ∀ s, ofL ps x L s = ofL ps x L s := fun _ => rfl
  generalize hF : (fun s => ofL ps x L s) = F
  have hF' : ∀ s, ofL ps x L s = F s := fun s => by rw [← hF]
  simp only [hF'] at hO hB ⊢
  clear hF hF' hE
  obtain ⟨pr, yo, re⟩ := x
  unfold natsSl at hO
  simp only at hO ⊢
  ((repeat ((conv => whnf); first | refine brT ?_ | refine brF ?_)); conv => whnf)
  refine ⟨[], _, _, _, _, hC, rfl, rfl, rfl, trivial, ?_⟩
  ((repeat ((conv => whnf); first | refine brT ?_ | refine brF ?_)); conv => whnf)
  (refine ⟨fun g1 => ?_, fun g1 => ?_⟩ <;> rw [g1])
  · ((repeat ((conv => whnf); first | refine brT ?_ | refine brF ?_)); conv => whnf)
    refine ⟨false, 0, 0, 2, [0, 1, 2, 4, 5, 6], (.one 3 (.one 7 (.one 8 (.one 9 .done)))), by kernel_rfl, by kernel_rfl, ?_⟩
    ((repeat ((conv => whnf); first | refine brT ?_ | refine brF ?_)); conv => whnf)
    apply Exists.intro
    apply Exists.intro
    refine And.intro ?_ ?_
    · refine ⟨_, _, _, _, hO 1, rfl, rfl, rfl, rfl, ⟨rfl, flats_nats _, trivial⟩, ?_⟩
      ((repeat ((conv => whnf); first | refine brT ?_ | refine brF ?_)); conv => whnf)
      refine ⟨_, _, _, _, hO 2, rfl, rfl, rfl, rfl, ⟨rfl, flats_nats _, trivial⟩, ?_⟩
      ((repeat ((conv => whnf); first | refine brT ?_ | refine brF ?_)); conv => whnf)
      refine Weak.idn ?_ ?_ rfl
      · ((repeat ((conv => whnf); refine ⟨rfl, ?_⟩)); trivial)
      · exact ⟨rfl, rfl, rfl, rfl, rfl, trivial⟩
    ((repeat ((conv => whnf); first | refine brT ?_ | refine brF ?_)); conv => whnf)
    refine ⟨rfl, ?_⟩
    ((repeat ((conv => whnf); first | refine brT ?_ | refine brF ?_)); conv => whnf)
    have e2 : (F 1).map natLV ++ (F 2).map natLV = (F 1 ++ F 2).map natLV := by rw [List.map_append]
    have hb1 := hB 1
    have hb2 := hB 2
    refine ⟨rfl, ?_, ?_, ?_⟩
    · rw [e2, List.length_map, List.length_append]; unfold Go.maxLen; omega
    · rw [e2, List.length_map, List.length_append]; show ((F 1).length + (F 2).length) * 8 ≤ _; omega
    rw [e2]
    ((repeat ((conv => whnf); first | refine brT ?_ | refine brF ?_)); conv => whnf)
    exact ⟨[.hs 0 ((F 1 ++ F 2).map natLV).length], rfl, rfl, .inr ⟨[.old 5], ⟨rfl, rfl, trivial⟩, ⟨rfl, rfl, trivial⟩, rfl⟩⟩
  · ((repeat ((conv => whnf); first | refine brT ?_ | refine brF ?_)); conv => whnf)
    (refine ⟨fun g2 => ?_, fun g2 => ?_⟩ <;> rw [g2])
    · ((repeat ((conv => whnf); first | refine brT ?_ | refine brF ?_)); conv => whnf)
      refine ⟨false, 0, 0, 2, [0, 1, 2, 4, 5, 6], (.one 3 (.one 7 (.one 8 (.one 9 .done)))), by kernel_rfl, by kernel_rfl, ?_⟩
      ((repeat ((conv => whnf); first | refine brT ?_ | refine brF ?_)); conv => whnf)
      apply Exists.intro
      apply Exists.intro
      refine And.intro ?_ ?_
      · refine ⟨_, _, _, _, hO 2, rfl, rfl, rfl, rfl, ⟨rfl, flats_nats _, trivial⟩, ?_⟩
        ((repeat ((conv => whnf); first | refine brT ?_ | refine brF ?_)); conv => whnf)
        refine ⟨_, _, _, _, hO 1, rfl, rfl, rfl, rfl, ⟨rfl, flats_nats _, trivial⟩, ?_⟩
        ((repeat ((conv => whnf); first | refine brT ?_ | refine brF ?_)); conv => whnf)
        refine Weak.idn ?_ ?_ rfl
        · ((repeat ((conv => whnf); refine ⟨rfl, ?_⟩)); trivial)
        · exact ⟨rfl, rfl, rfl, rfl, rfl, trivial⟩
      ((repeat ((conv => whnf); first | refine brT ?_ | refine brF ?_)); conv => whnf)
      refine ⟨rfl, ?_⟩
      ((repeat ((conv => whnf); first | refine brT ?_ | refine brF ?_)); conv => whnf)
      have e2 : (F 2).map natLV ++ (F 1).map natLV = (F 2 ++ F 1).map natLV := by rw [List.map_append]
      have hb1 := hB 2
      have hb2 := hB 1
      refine ⟨rfl, ?_, ?_, ?_⟩
      · rw [e2, List.length_map, List.length_append]; unfold Go.maxLen; omega
      · rw [e2, List.length_map, List.length_append]; show ((F 2).length + (F 1).length) * 8 ≤ _; omega
      rw [e2]
      ((repeat ((conv => whnf); first | refine brT ?_ | refine brF ?_)); conv => whnf)
      exact ⟨[.hs 0 ((F 2 ++ F 1).map natLV).length], rfl, rfl, .inr ⟨[.old 5], ⟨rfl, rfl, trivial⟩, ⟨rfl, rfl, trivial⟩, rfl⟩⟩
    · ((repeat ((conv => whnf); first | refine brT ?_ | refine brF ?_)); conv => whnf)
      (refine ⟨fun g3 => ?_, fun g3 => ?_⟩ <;> rw [g3])
      · ((repeat ((conv => whnf); first | refine brT ?_ | refine brF ?_)); conv => whnf)
        refine ⟨[], _, _, _, _, hO 1, rfl, ?_⟩
        ((repeat ((conv => whnf); first | refine brT ?_ | refine brF ?_)); conv => whnf)
        refine ⟨rfl, ?_⟩
        ((repeat ((conv => whnf); first | refine brT ?_ | refine brF ?_)); conv => whnf)
        refine ⟨rfl, rfl, ⟨rfl, flats_nats _, trivial⟩, ?_⟩
        ((repeat ((conv => whnf); first | refine brT ?_ | refine brF ?_)); conv => whnf)
        exact ⟨[.hs 0 ((F 1).map natLV).length], rfl, rfl, .inr ⟨[.old 3], ⟨rfl, rfl, trivial⟩, ⟨rfl, rfl, trivial⟩, rfl⟩⟩
      · ((repeat ((conv => whnf); first | refine brT ?_ | refine brF ?_)); conv => whnf)
        (refine ⟨fun g4 => ?_, fun g4 => ?_⟩ <;> rw [g4])
        · ((repeat ((conv => whnf); first | refine brT ?_ | refine brF ?_)); conv => whnf)
          refine ⟨[], _, _, _, _, hO 2, rfl, ?_⟩
          ((repeat ((conv => whnf); first | refine brT ?_ | refine brF ?_)); conv => whnf)
          refine ⟨rfl, ?_⟩
          ((repeat ((conv => whnf); first | refine brT ?_ | refine brF ?_)); conv => whnf)
          refine ⟨rfl, rfl, ⟨rfl, flats_nats _, trivial⟩, ?_⟩
          ((repeat ((conv => whnf); first | refine brT ?_ | refine brF ?_)); conv => whnf)
          exact ⟨[.hs 0 ((F 2).map natLV).length], rfl, rfl, .inr ⟨[.old 3], ⟨rfl, rfl, trivial⟩, ⟨rfl, rfl, trivial⟩, rfl⟩⟩
        · ((repeat ((conv => whnf); first | refine brT ?_ | refine brF ?_)); conv => whnf)
          refine ⟨[], _, _, _, _, hO 0, rfl, ?_⟩
          ((repeat ((conv => whnf); first | refine brT ?_ | refine brF ?_)); conv => whnf)
          refine ⟨rfl, ?_⟩
          ((repeat ((conv => whnf); first | refine brT ?_ | refine brF ?_)); conv => whnf)
          refine ⟨rfl, rfl, ⟨rfl, flats_nats _, trivial⟩, ?_⟩
          ((repeat ((conv => whnf); first | refine brT ?_ | refine brF ?_)); conv => whnf)
          exact ⟨[.hs 0 ((F 0).map natLV).length], rfl, rfl, .inr ⟨[.old 3], ⟨rfl, rfl, trivial⟩, ⟨rfl, rfl, trivial⟩, rfl⟩⟩
end Go.Proofs.Ytbiagkccgijdlaa


namespace Go.Proofs.Ytbiagkccgijdlaa
open Go.Lg Go.Pm
set_option maxHeartbeats 3200000
set_option maxRecDepth 10000
set_option linter.unusedVariables false
set_option linter.unusedSimpArgs false

def ordW (ps : List Per) (us : List Uni) (x : Cus) (p : Int) : List Nat := match cusOk x with
  | false => []
  | true => match hasP ps us p with
    | false => []
    | true => ordL ps x p
theorem ordW_len (ps : List Per) (us : List Uni) (x : Cus) (p : Int) : (ordW ps us x p).length ≤ 80 := by
  unfold ordW
  cases cusOk x
  · simp
  · cases h : hasP ps us p
    · simp
    · obtain ⟨_, _, hl, _⟩ := hasP_in h
      exact Nat.le_trans (ordL_len ps x p) (by omega)
theorem order_impl (ps : List Per) (us : List Uni) (x : Cus) (p : Int) : HSpec env.P 23 [famLV ps us, x.lv, .int .i64 p] [] (.hs 0 ((ordW ps us x p).map natLV).length) [.arr 3 1 ((ordW ps us x p).map natLV)] := by
  refine HSpec_of_code (E := env.x [62] 0) env_ok.x (fn := Try.f23) Try.func23 rfl Try.call23 _ _ _ _ ?_
  have h1 := cus_impl x
  have hO := ordered_h ps us x p
  unfold ordW
  generalize cusOk x = b at h1 ⊢
  generalize ordL ps x p = L at hO ⊢
  obtain ⟨pr, yo, re⟩ := x
  ((repeat ((conv => whnf); first | refine brT ?_ | refine brF ?_)); conv => whnf)
  refine ⟨_, h1, ?_⟩
  ((repeat ((conv => whnf); first | refine brT ?_ | refine brF ?_)); conv => whnf)
  cases b
  · rw [show notB false = true by simp [notB]]
    ((repeat ((conv => whnf); first | refine brT ?_ | refine brF ?_)); conv => whnf)
    exact ⟨[.hs 0 0], rfl, rfl, .nl [.tmp 0 [] false 3 1] [.old 2] ⟨⟨rfl, rfl, trivial⟩, ⟨rfl, rfl, trivial⟩, rfl⟩⟩
  rw [show notB true = false by simp [notB]]
  ((repeat ((conv => whnf); first | refine brT ?_ | refine brF ?_)); conv => whnf)
  refine ⟨_, hasPerson_spec ps us p, ?_⟩
  ((repeat ((conv => whnf); first | refine brT ?_ | refine brF ?_)); conv => whnf)
  cases h : hasP ps us p
  · rw [show notB false = true by simp [notB]]
    ((repeat ((conv => whnf); first | refine brT ?_ | refine brF ?_)); conv => whnf)
    exact ⟨[.hs 0 0], rfl, rfl, .nl [.tmp 0 [] false 3 1] [.old 2] ⟨⟨rfl, rfl, trivial⟩, ⟨rfl, rfl, trivial⟩, rfl⟩⟩
  rw [show notB true = false by simp [notB]]
  obtain ⟨p0, pl, hl, _⟩ := hasP_in h
  ((repeat ((conv => whnf); first | refine brT ?_ | refine brF ?_)); conv => whnf)
  refine ⟨[], _, _, _, _, hO hl, rfl, rfl, rfl, trivial, ?_⟩
  ((repeat ((conv => whnf); first | refine brT ?_ | refine brF ?_)); conv => whnf)
  exact ⟨[.hs 0 (L.map natLV).length], rfl, rfl, .inr ⟨[.old 2], ⟨rfl, rfl, trivial⟩, ⟨rfl, rfl, trivial⟩, rfl⟩⟩
theorem order_spec (ps : List Per) (us : List Uni) (x : Cus) (p : Int) : HSpec env.P 21 [famLV ps us, x.lv, .int .i64 p] [] (.hs 0 ((ordW ps us x p).map natLV).length) [.arr 3 1 ((ordW ps us x p).map natLV)] := by
  refine HSpec_of_code (E := env.x [58] 0) env_ok.x (fn := Try.f21) Try.func21 rfl Try.call21 _ _ _ _ ?_
  have h1 := cus_spec x
  have hO : hasP ps us p = true → HSpec env.P 58 [famLV ps us, x.lv, .int .i64 p] [] (.hs 0 ((ordL ps x p).map natLV).length) [.arr 3 1 ((ordL ps x p).map natLV)] := fun h => by
    rw [← chl_ord (hasP_lt h).2.2 x p]
    exact l10Children_h ps us x p (hasP_in h).2.2.1
  unfold ordW
  generalize cusOk x = b at h1 ⊢
  generalize ordL ps x p = L at hO ⊢
  obtain ⟨pr, yo, re⟩ := x
  ((repeat ((conv => whnf); first | refine brT ?_ | refine brF ?_)); conv => whnf)
  refine ⟨_, h1, ?_⟩
  ((repeat ((conv => whnf); first | refine brT ?_ | refine brF ?_)); conv => whnf)
  cases b
  · rw [show notB false = true by simp [notB]]
    ((repeat ((conv => whnf); first | refine brT ?_ | refine brF ?_)); conv => whnf)
    exact ⟨[.hs 0 0], rfl, rfl, .nl [.tmp 0 [] false 3 1] [.old 2] ⟨⟨rfl, rfl, trivial⟩, ⟨rfl, rfl, trivial⟩, rfl⟩⟩
  rw [show notB true = false by simp [notB]]
  ((repeat ((conv => whnf); first | refine brT ?_ | refine brF ?_)); conv => whnf)
  refine ⟨_, l1Has_spec ps us p, ?_⟩
  ((repeat ((conv => whnf); first | refine brT ?_ | refine brF ?_)); conv => whnf)
  cases h : hasP ps us p
  · rw [show notB false = true by simp [notB]]
    ((repeat ((conv => whnf); first | refine brT ?_ | refine brF ?_)); conv => whnf)
    exact ⟨[.hs 0 0], rfl, rfl, .nl [.tmp 0 [] false 3 1] [.old 2] ⟨⟨rfl, rfl, trivial⟩, ⟨rfl, rfl, trivial⟩, rfl⟩⟩
  rw [show notB true = false by simp [notB]]
  ((repeat ((conv => whnf); first | refine brT ?_ | refine brF ?_)); conv => whnf)
  refine ⟨[], _, _, _, _, hO h, rfl, rfl, rfl, trivial, ?_⟩
  ((repeat ((conv => whnf); first | refine brT ?_ | refine brF ?_)); conv => whnf)
  exact ⟨[.hs 0 (L.map natLV).length], rfl, rfl, .inr ⟨[.old 2], ⟨rfl, rfl, trivial⟩, ⟨rfl, rfl, trivial⟩, rfl⟩⟩
theorem law_orderChildren (ps : List Per) (us : List Uni) (x : Cus) (p : Int) (hf : FamOK ps us) : FSpec env.P 6 [famLV ps us, x.lv, .int .i64 p] (.bool true) := by
  have hI := ints_h (order_impl ps us x p)
  have hS := ints_f (ints_h (order_spec ps us x p))
  have hF := ints_f hI
  have hl : (castL (ordW ps us x p)).length ≤ 1048576 := by
    rw [castL_len]
    exact Nat.le_trans (ordW_len ps us x p) (by omega)
  have hT := toCus_spec x
  generalize castL (ordW ps us x p) = R at hI hS hF hl
  obtain ⟨pr, yo, re⟩ := x
  refine FSpec_of_code (E := env.x [22, 23, 26, 27] 0) env_ok.x (fn := Try.f6) Try.func6 rfl Try.call6 _ _ ?_
  ((repeat ((conv => whnf); first | refine brT ?_ | refine brF ?_)); conv => whnf)
  refine ⟨_, szFamily_spec ps us _, ?_⟩
  ((repeat ((conv => whnf); first | refine brT ?_ | refine brF ?_)); conv => whnf)
  (refine ⟨fun h => ?_, fun h => ?_⟩ <;> rw [h])
  · ((repeat ((conv => whnf); first | refine brT ?_ | refine brF ?_)); conv => whnf); exact fin rfl
  rw [ltI_f] at h
  obtain ⟨p1, u1, s1⟩ := szFam_ok (by omega) (by omega) hf h
  ((repeat ((conv => whnf); first | refine brT ?_ | refine brF ?_)); conv => whnf)
  refine ⟨true, by kernel_rfl, ?_⟩
  ((repeat ((conv => whnf); first | refine brT ?_ | refine brF ?_)); conv => whnf)
  refine ⟨_, toFamily_spec ps us p1 u1, ?_⟩
  ((repeat ((conv => whnf); first | refine brT ?_ | refine brF ?_)); conv => whnf)
  refine ⟨_, hT, ?_⟩
  ((repeat ((conv => whnf); first | refine brT ?_ | refine brF ?_)); conv => whnf)
  refine ⟨_, hS, ?_⟩
  rw [show flatT (rowOw R) = true from flat_ints R]
  ((repeat ((conv => whnf); first | refine brT ?_ | refine brF ?_)); conv => whnf)
  refine ⟨[], _, _, _, _, toFamily_hm ps us p1 u1, rfl, rfl, rfl, trivial, ?_⟩
  ((repeat ((conv => whnf); first | refine brT ?_ | refine brF ?_)); conv => whnf)
  refine ⟨false, 0, 0, 0, [0, 1, 3], (.one 2 (.one 4 (.one 5 .done))), by kernel_rfl, ?_⟩
  ((repeat ((conv => whnf); first | refine brT ?_ | refine brF ?_)); conv => whnf)
  apply Exists.intro; apply Exists.intro
  refine And.intro ?_ ?_
  · ((repeat ((conv => whnf); first | refine brT ?_ | refine brF ?_)); conv => whnf)
    refine ⟨_, hT, ?_⟩
    ((repeat ((conv => whnf); first | refine brT ?_ | refine brF ?_)); conv => whnf)
    refine ⟨_, _, _, _, hI, rfl, rfl, rfl, rfl, rfl, ⟨rfl, flats_ints _, trivial⟩, ?_⟩
    ((repeat ((conv => whnf); first | refine brT ?_ | refine brF ?_)); conv => whnf)
    refine Weak.idn ?_ ?_ rfl
    · ((repeat ((conv => whnf); refine ⟨rfl, ?_⟩)); trivial)
    · exact ⟨rfl, rfl, rfl, rfl, rfl, rfl, trivial⟩
  ((repeat ((conv => whnf); first | refine brT ?_ | refine brF ?_)); conv => whnf)
  refine ⟨rfl, ?_⟩
  ((repeat ((conv => whnf); first | refine brT ?_ | refine brF ?_)); conv => whnf)
  refine ⟨_, eqIntS_spec R R, ?_⟩
  rw [eqIntS_refl]
  ((repeat ((conv => whnf); first | refine brT ?_ | refine brF ?_)); conv => whnf)
  rw [show notB true = false by simp [notB]]
  ((repeat ((conv => whnf); first | refine brT ?_ | refine brF ?_)); conv => whnf)
  refine ⟨true, by kernel_rfl, ?_⟩
  ((repeat ((conv => whnf); first | refine brT ?_ | refine brF ?_)); conv => whnf)
  refine ⟨_, toFamily_spec ps us p1 u1, ?_⟩
  ((repeat ((conv => whnf); first | refine brT ?_ | refine brF ?_)); conv => whnf)
  refine ⟨rfl, ?_⟩
  ((repeat ((conv => whnf); first | refine brT ?_ | refine brF ?_)); conv => whnf)
  refine ⟨rfl, ?_⟩
  ((repeat ((conv => whnf); first | refine brT ?_ | refine brF ?_)); conv => whnf)
  refine ⟨_, eqFamily_spec ps ps us us, ?_⟩
  rw [eqFam_refl]
  ((repeat ((conv => whnf); first | refine brT ?_ | refine brF ?_)); conv => whnf)
  rw [show notB true = false by simp [notB]]
  ((repeat ((conv => whnf); first | refine brT ?_ | refine brF ?_)); conv => whnf)
  refine ⟨[2, 3], _, _, _, _, markFamily_hm ps us 1 (by omega), rfl, rfl, rfl, trivial, ?_⟩
  ((repeat ((conv => whnf); first | refine brT ?_ | refine brF ?_)); conv => whnf)
  rw [show ltI ((1 + 6 * ps.length + 4 * us.length : Nat) : Int) 0 = false by rw [ltI_f]; omega]
  ((repeat ((conv => whnf); first | refine brT ?_ | refine brF ?_)); conv => whnf)
  refine ⟨rfl, ?_⟩
  ((repeat ((conv => whnf); first | refine brT ?_ | refine brF ?_)); conv => whnf)
  refine ⟨_, eqIntS_spec R R, ?_⟩
  rw [eqIntS_refl]
  ((repeat ((conv => whnf); first | refine brT ?_ | refine brF ?_)); conv => whnf)
  rw [show notB true = false by simp [notB]]
  ((repeat ((conv => whnf); first | refine brT ?_ | refine brF ?_)); conv => whnf)
  refine ⟨[5], _, _, _, _, markIntS_spec R _ rfl 1 (by omega) (by omega), rfl, rfl, rfl, trivial, ?_⟩
  ((repeat ((conv => whnf); first | refine brT ?_ | refine brF ?_)); conv => whnf)
  refine ⟨by simp [marks_len], ?_⟩
  ((repeat ((conv => whnf); first | refine brT ?_ | refine brF ?_)); conv => whnf)
  refine ⟨_, heldIntS_spec 1 R.length (by omega) (by omega), ?_⟩
  ((repeat ((conv => whnf); first | refine brT ?_ | refine brF ?_)); conv => whnf)
  rw [show ltI (1 + (R.length : Int)) 0 = false by rw [ltI_f]; omega]
  ((repeat ((conv => whnf); first | refine brT ?_ | refine brF ?_)); conv => whnf)
  rw [show notB (eqI (1 + (R.length : Int)) (1 + (R.length : Int))) = false by simp [notB, eqI_refl]]
  ((repeat ((conv => whnf); first | refine brT ?_ | refine brF ?_)); conv => whnf)
  refine ⟨true, by kernel_rfl, ?_⟩
  ((repeat ((conv => whnf); first | refine brT ?_ | refine brF ?_)); conv => whnf)
  refine ⟨_, toFamily_spec ps us p1 u1, ?_⟩
  ((repeat ((conv => whnf); first | refine brT ?_ | refine brF ?_)); conv => whnf)
  refine ⟨_, hT, ?_⟩
  ((repeat ((conv => whnf); first | refine brT ?_ | refine brF ?_)); conv => whnf)
  refine ⟨_, hF, ?_⟩
  rw [show flatT (rowOw R) = true from flat_ints R]
  ((repeat ((conv => whnf); first | refine brT ?_ | refine brF ?_)); conv => whnf)
  refine ⟨_, eqIntS_spec R R, ?_⟩
  rw [eqIntS_refl]
  ((repeat ((conv => whnf); first | refine brT ?_ | refine brF ?_)); conv => whnf)
  rw [show notB true = false by simp [notB]]
  ((repeat ((conv => whnf); first | refine brT ?_ | refine brF ?_)); conv => whnf)
  refine ⟨by simp [marks_len], ?_⟩
  ((repeat ((conv => whnf); first | refine brT ?_ | refine brF ?_)); conv => whnf)
  refine ⟨_, heldIntS_spec 1 R.length (by omega) (by omega), ?_⟩
  ((repeat ((conv => whnf); first | refine brT ?_ | refine brF ?_)); conv => whnf)
  rw [show ltI (1 + (R.length : Int)) 0 = false by rw [ltI_f]; omega]
  ((repeat ((conv => whnf); first | refine brT ?_ | refine brF ?_)); conv => whnf)
  rw [show notB (eqI (1 + (R.length : Int)) (1 + (R.length : Int))) = false by simp [notB, eqI_refl]]
  ((repeat ((conv => whnf); first | refine brT ?_ | refine brF ?_)); conv => whnf)
  exact fin rfl
end Go.Proofs.Ytbiagkccgijdlaa


namespace Go.Proofs.Ytbiagkccgijdlaa
open Go.Lg Go.RowKit Go.ChangeShapes Go.WideShapes Go.Deep Go.Joins
set_option linter.unusedVariables false
set_option linter.unusedSimpArgs false
set_option maxRecDepth 100000

theorem list_of {α : Type} {lv : α → LV} {Q : α → Prop} : ∀ (xs : List LV), (∀ x ∈ xs, ∃ p, x = lv p ∧ Q p) → ∃ ps : List α, xs = ps.map lv ∧ ∀ p ∈ ps, Q p
  | [], _ => ⟨[], rfl, by simp⟩
  | x :: xs, h => by
    obtain ⟨p, rfl, hp⟩ := h x (by simp)
    obtain ⟨ps, rfl, hps⟩ := list_of xs fun y hy => h y (by simp [hy])
    exact ⟨p :: ps, rfl, List.forall_mem_cons.2 ⟨hp, hps⟩⟩

section
variable {H : Type} {enc : TypeId × Value → H} {w : World}
end
end Go.Proofs.Ytbiagkccgijdlaa


namespace Go.Proofs.Ytbiagkccgijdlaa
open Go.Lg
set_option maxRecDepth 10000
set_option linter.unusedVariables false
set_option linter.unusedSimpArgs false

/-! ### A family, out of an argument's shape -/
abbrev shPer : Sh := .st [.str, .int .i64, .int .i64, .int .i64, .int .i64, .int .i64]
abbrev shUni : Sh := .st [.int .i64, .int .i64, .int .i64, .int .i64]
abbrev shFam : Sh := .st [.sl (.st [.str, .int .i64, .int .i64, .int .i64, .int .i64, .int .i64]), .sl (.st [.int .i64, .int .i64, .int .i64, .int .i64])]
theorem per_of_sh {x : LV} (h : hasSh shPer x) : ∃ p : Per, x = p.lv ∧ p.name.size ≤ maxLen := by
  simp only [hasSh] at h
  obtain ⟨xs, rfl, h⟩ := h
  match xs, h with
  | [a, b, c, d, e, f], h =>
    simp only [hasShs, hasSh] at h
    obtain ⟨⟨s, rfl, hs⟩, ⟨n1, rfl⟩, ⟨n2, rfl⟩, ⟨n3, rfl⟩, ⟨n4, rfl⟩, ⟨n5, rfl⟩, _⟩ := h
    exact ⟨⟨s, n1, n2, n3, n4, n5⟩, rfl, hs⟩
  | [], h => simp [hasShs] at h
  | [_], h => simp [hasShs] at h
  | [_, _], h => simp [hasShs] at h
  | [_, _, _], h => simp [hasShs] at h
  | [_, _, _, _], h => simp [hasShs] at h
  | [_, _, _, _, _], h => simp [hasShs] at h
  | _ :: _ :: _ :: _ :: _ :: _ :: _ :: _, h => simp [hasShs] at h
theorem uni_of_sh {x : LV} (h : hasSh shUni x) : ∃ u : Uni, x = u.lv ∧ True := by
  simp only [hasSh] at h
  obtain ⟨xs, rfl, h⟩ := h
  match xs, h with
  | [a, b, c, d], h =>
    simp only [hasShs, hasSh] at h
    obtain ⟨⟨n1, rfl⟩, ⟨n2, rfl⟩, ⟨n3, rfl⟩, ⟨n4, rfl⟩, _⟩ := h
    exact ⟨⟨n1, n2, n3, n4⟩, rfl, trivial⟩
  | [], h => simp [hasShs] at h
  | [_], h => simp [hasShs] at h
  | [_, _], h => simp [hasShs] at h
  | [_, _, _], h => simp [hasShs] at h
  | _ :: _ :: _ :: _ :: _ :: _, h => simp [hasShs] at h
theorem fam_of_sh {x : LV} (h : hasSh shFam x) : ∃ (ps : List Per) (us : List Uni), x = famLV ps us ∧ FamOK ps us := by
  simp only [hasSh] at h
  obtain ⟨xs, rfl, h⟩ := h
  match xs, h with
  | [a, b], h =>
    simp only [hasShs, hasSh] at h
    obtain ⟨⟨ys, rfl, hl, hy⟩, ⟨zs, rfl, hm, hz⟩, _⟩ := h
    obtain ⟨ps, rfl, hps⟩ := list_of (lv := Per.lv) (Q := fun p => p.name.size ≤ maxLen) ys fun y hy' => per_of_sh (by simp only [hasSh]; exact hy y hy')
    obtain ⟨us, rfl, _⟩ := list_of (lv := Uni.lv) (Q := fun _ => True) zs fun y hy' => uni_of_sh (by simp only [hasSh]; exact hz y hy')
    exact ⟨ps, us, rfl, ⟨by simpa using hl, by simpa using hm, hps⟩⟩
  | [], h => simp [hasShs] at h
  | [_], h => simp [hasShs] at h
  | _ :: _ :: _ :: _, h => simp [hasShs] at h
end Go.Proofs.Ytbiagkccgijdlaa


namespace Go.Proofs.Ytbiagkccgijdlaa
open Go.Lg Go.Pm
set_option maxHeartbeats 6400000
set_option maxRecDepth 10000
set_option linter.unusedVariables false
set_option linter.unusedSimpArgs false

/-! ### The heirs below, as the program finds them -/
def sucLV (ps : List Per) (us : List Uni) (x : Cus) (y : Int) (S : (Nat → Bool) × List Nat) : LV := .st [famLV ps us, x.lv, .int .i64 y, uLV (bitsP ps.length S.1), .own 3 1 (S.2.map natLV)]
theorem alive_impl (q : Per) (y : Int) : FSpec env.P 102 [q.lv, .int .i64 y] (.bool (aliveB q y)) := by
  obtain ⟨nm, sx, fa, mo, bo, di⟩ := q
  refine FSpec_of_code env_ok (fn := Try.f102) Try.func102 rfl Try.call102 _ _ ?_
  ((repeat' (((repeat ((conv => whnf); first | refine brT ?_ | refine brF ?_)); conv => whnf); first | (refine And.intro ?_ ?_ <;> (intro h; rw [h]; revert h; intro _)) | (refine Exists.intro true (And.intro (a := drawB _ _ = true) (by kernel_rfl) ?_)) | (refine Exists.intro _ (And.intro () ?_)))); all_goals ((repeat ((conv => whnf); first | refine brT ?_ | refine brF ?_)); conv => whnf))
  all_goals (refine fin ?_; simp_all [aliveB])
theorem alive_spec (ps : List Per) (us : List Uni) (i : Nat) (y : Int) (hi : i < ps.length) : FSpec env.P 101 [famLV ps us, .int .i64 (i : Int), .int .i64 y] (.bool (alv ps y i)) := by
  have hg : (ps.map Per.lv)[i]? = some ps[i].lv := by simp [hi]
  have ha : alv ps y i = aliveB ps[i] y := by simp [alv, hi]
  rw [ha]
  generalize ps[i] = q at hg
  obtain ⟨nm, sx, fa, mo, bo, di⟩ := q
  refine FSpec_of_code env_ok (fn := Try.f101) Try.func101 rfl Try.call101 _ _ ?_
  ((repeat ((conv => whnf); first | refine brT ?_ | refine brF ?_)); conv => whnf)
  refine ⟨i, _, rfl, hg, rfl, ?_⟩
  ((repeat' (((repeat ((conv => whnf); first | refine brT ?_ | refine brF ?_)); conv => whnf); first | (refine And.intro ?_ ?_ <;> (intro h; rw [h]; revert h; intro _)) | (refine Exists.intro true (And.intro (a := drawB _ _ = true) (by kernel_rfl) ?_)) | (refine Exists.intro _ (And.intro () ?_)))); all_goals ((repeat ((conv => whnf); first | refine brT ?_ | refine brF ?_)); conv => whnf))
  all_goals (refine fin ?_; simp_all [aliveB])
theorem has_spec (n : Nat) (M : Nat → Bool) (i : Nat) (hi : i < n) (hn : n ≤ 40) : FSpec env.P 103 [uLV (bitsP n M), .int .i64 (i : Int)] (.bool (M i)) := by
  refine FSpec_of_code env_ok (fn := Try.f103) Try.func103 rfl Try.call103 _ _ ?_
  have h := has_bits (s := bitsP n M) (b := (i : Int)) (bitsP_64 M (by omega)) (by omega) (by omega)
  rw [bitsP_has hi] at h
  rw [← h]
  unfold uLV
  ((repeat ((conv => whnf); first | refine brT ?_ | refine brF ?_)); conv => whnf)
  refine ⟨by omega, ?_⟩
  ((repeat ((conv => whnf); first | refine brT ?_ | refine brF ?_)); conv => whnf)
  exact fin rfl
theorem add_h (ps : List Per) (us : List Uni) (x : Cus) (y : Int) (S : (Nat → Bool) × List Nat) (c : Nat) (hc : c < ps.length) (hl : ps.length ≤ 40) :
    HSpec env.P 104 [.hp 0 1 [0, 3], .int .i64 (c : Int)] [.tree 88 8 [sucLV ps us x y S]] (.tup []) [.tree 88 8 [sucLV ps us x y (insP S.1 c, S.2)]] := by
  refine HSpec_of_code (E := env.x [] 1) env_ok.x (fn := Try.f104) Try.func104 rfl Try.call104 _ _ _ _ ?_
  have hb : Go.Lg.orI .u64 (bitsP ps.length S.1 : Int) (shlI .u64 1 (c : Int)) = (bitsP ps.length (insP S.1 c) : Int) := by
    rw [shlI_one (by omega) (by omega), orI_nat (bitsP_64 _ (by omega)) (two_lt (by omega))]
    rw [show ((c : Int)).toNat = c from rfl, bitsP_add hc]
    rfl
  unfold sucLV uLV
  ((repeat ((conv => whnf); first | refine brT ?_ | refine brF ?_)); conv => whnf)
  refine ⟨false, 6, by kernel_rfl, ?_⟩
  ((repeat ((conv => whnf); first | refine brT ?_ | refine brF ?_)); conv => whnf)
  refine ⟨rfl, _, _, rfl, rfl, ?_⟩
  ((repeat ((conv => whnf); first | refine brT ?_ | refine brF ?_)); conv => whnf)
  refine ⟨rfl, rfl, ?_⟩
  ((repeat ((conv => whnf); first | refine brT ?_ | refine brF ?_)); conv => whnf)
  refine ⟨by omega, ?_⟩
  ((repeat ((conv => whnf); first | refine brT ?_ | refine brF ?_)); conv => whnf)
  rw [hb]
  ((repeat ((conv => whnf); first | refine brT ?_ | refine brF ?_)); conv => whnf)
  refine ⟨rfl, rfl, _, _, _, rfl, rfl, rfl, rfl, ?_⟩
  ((repeat ((conv => whnf); first | refine brT ?_ | refine brF ?_)); conv => whnf)
  exact ⟨[], rfl, rfl, .inr ⟨[.old 0], trivial, ⟨rfl, rfl, trivial⟩, rfl⟩⟩
theorem stp_in {ps : List Per} {x : Cus} {y : Int} {I : Nat → Bool} {p c : Nat} {M : Nat → Bool} {out out' : List Nat} (hpc : p < c) (hc : c < ps.length) (ok : Ok ps I (M, out)) (hS : ∀ m, M m = true → p < m → clo ps x y I out m) (hM : M c = false)
    (ho : out' = out ∨ out' = out ++ [c]) : Ok ps I (insP M c, out') ∧ ∀ m, insP M c m = true → c < m → clo ps x y I out' m := by
  have hO : c ∉ out := fun e => by have := ok.o c e; simp only at this; rw [hM] at this; cases this
  have hsub : ∀ q ∈ out', q ∈ out ∨ q = c := fun q hq => by
    rcases ho with rfl | rfl
    · exact .inl hq
    · rcases List.mem_append.1 hq with h | h
      · exact .inl h
      · simp at h; exact .inr h
  refine ⟨⟨fun q hq => ?_, fun q hq => ?_, ?_, fun q hq => ?_⟩, fun m hm hcm => ?_⟩
  · simp only [insP]; split
    · rfl
    · exact ok.i q hq
  · simp only [insP]; split
    · rfl
    · rename_i e; rcases hsub q hq with h | h
      · exact ok.o q h
      · exact absurd h e
  · rcases ho with rfl | rfl
    · exact ok.nd
    · rw [List.nodup_append]
      refine ⟨ok.nd, by simp, fun a ha b hb => ?_⟩
      simp at hb; subst hb
      intro e2; subst e2
      exact hO ha
  · rcases hsub q hq with h | h
    · exact ok.lt q h
    · subst h; exact hc
  · simp only [insP] at hm
    rw [if_neg (by omega)] at hm
    have := hS m hm (by omega)
    rcases ho with rfl | rfl
    · exact this
    · intro q hq
      rcases this q hq with h | h
      · exact .inl h
      · exact .inr (List.mem_append_left _ h)
theorem addBelow_h {ps : List Per} {us : List Uni} (hf : famOk ps us = true) (x : Cus) (y : Int) (I : Nat → Bool) : ∀ (d p : Nat), ps.length ≤ p + d → p < ps.length → ∀ S : (Nat → Bool) × List Nat, Ok ps I S → (∀ m, S.1 m = true → p < m → clo ps x y I S.2 m) →
    HSpec env.P 68 [.hp 0 1 [0], .int .i64 (p : Int)] [.tree 88 8 [sucLV ps us x y S]] (.tup []) [.tree 88 8 [sucLV ps us x y (addI ps x y d p S)]]
  | 0, p, h, hp, S, ok, hc => by omega
  | d + 1, p, h, hp, S, ok, hc => by
    refine HSpec_of_code (E := env.x [68, 104] 1) env_ok.x (fn := Try.f68) Try.func68 rfl Try.call68 _ _ _ _ ?_
    have hO : FSpec env.P 62 [famLV ps us, x.lv, .int .i64 (p : Int)] (.own 3 1 ((ordL ps x (p : Int)).map natLV)) := FSpec_of_HSpec (ordered_h ps us x (p : Int) (fam_40 hf)) (by simp [exW])
    unfold sucLV famLV Cus.lv uLV
    unfold famLV Cus.lv at hO
    ((repeat ((conv => whnf); first | refine brT ?_ | refine brF ?_)); conv => whnf)
    refine ⟨true, by kernel_rfl, ?_⟩
    ((repeat ((conv => whnf); first | refine brT ?_ | refine brF ?_)); conv => whnf)
    refine ⟨rfl, by simp, _, rfl, rfl, by simp, ?_⟩
    ((repeat ((conv => whnf); first | refine brT ?_ | refine brF ?_)); conv => whnf)
    refine ⟨rfl, by simp, _, rfl, rfl, rfl, ?_⟩
    ((repeat ((conv => whnf); first | refine brT ?_ | refine brF ?_)); conv => whnf)
    refine ⟨rfl, by simp, _, rfl, rfl, by simp, ?_⟩
    ((repeat ((conv => whnf); first | refine brT ?_ | refine brF ?_)); conv => whnf)
    refine ⟨rfl, by simp, _, rfl, rfl, rfl, ?_⟩
    ((repeat ((conv => whnf); first | refine brT ?_ | refine brF ?_)); conv => whnf)
    refine ⟨_, hO, ?_⟩
    have hLm : ∀ c ∈ ordL ps x (p : Int), p < c ∧ c < ps.length := fun c hc => ⟨(ordL_mem (fam_pi hf) hc).2.1, (ordL_mem (fam_pi hf) hc).1⟩
    have hLl := ordL_len ps x (p : Int)
    have h40 := fam_40 hf
    have hRes : addI ps x y (d + 1) p S = (ordL ps x (p : Int)).foldl (stpI ps x y (addI ps x y d)) S := rfl
    rw [hRes]
    clear hRes hO
    generalize ordL ps x (p : Int) = L at hLm hLl
    have hN := nats_len L
    ((repeat ((conv => whnf); first | refine brT ?_ | refine brF ?_)); conv => whnf)
    intro _
    rw [hN]
    ((repeat ((conv => whnf); first | refine brT ?_ | refine brF ?_)); conv => whnf)
    refine loop_ruleR (α := Nat) [.old 0] (fun k => [(18, .int .i64 (k : Int))]) (fun k => [.tree 88 8 [sucLV ps us x y ((L.take k).foldl (stpI ps x y (addI ps x y d)) S)]]) (fun k => L.length - k)
      (fun k => k ≤ L.length ∧ Ok ps I ((L.take k).foldl (stpI ps x y (addI ps x y d)) S) ∧ ∀ m, ((L.take k).foldl (stpI ps x y (addI ps x y d)) S).1 m = true → p < m → clo ps x y I ((L.take k).foldl (stpI ps x y (addI ps x y d)) S).2 m) 0 ⟨Nat.zero_le _, ok, hc⟩ ?_ ?_
    · refine ⟨?_, ⟨rfl, rfl, trivial⟩, rfl⟩
      ((repeat ((conv => whnf); refine ⟨rfl, rfl, ?_⟩)); trivial)
    rintro k ⟨hk, okk, hck⟩
    generalize hK : kk _ = KK
    ((repeat ((conv => whnf); first | refine brT ?_ | refine brF ?_)); conv => whnf)
    (refine ⟨fun g1 => ?_, fun g1 => ?_⟩ <;> rw [g1])
    · have hlt : k < L.length := by rw [ltI_t] at g1; omega
      have e := step_i hlt (by unfold Go.maxLen; omega)
      obtain ⟨hpc, hcn⟩ := hLm L[k] (List.getElem_mem hlt)
      have hg : (L.map natLV)[k]? = some (.int .i64 (L[k] : Int)) := by rw [List.getElem?_map, List.getElem?_eq_getElem hlt]; rfl
      have hgp : (ps.map Per.lv)[L[k]]? = some ps[L[k]].lv := by simp [hcn]
      have hst : (L.take (k + 1)).foldl (stpI ps x y (addI ps x y d)) S = stpI ps x y (addI ps x y d) ((L.take k).foldl (stpI ps x y (addI ps x y d)) S) L[k] := by
        rw [List.take_succ_eq_append_getElem hlt, List.foldl_append]; rfl
      have hal : alv ps y L[k] = aliveB ps[L[k]] y := by simp [alv, hcn]
      generalize L[k] = c at hpc hcn hg hgp hst hal
      have hW := stpI_ok (rec := addI ps x y d) (x := x) (y := y) hpc hcn (fun S' ok' hS' => addI_ok (fam_pi hf) x y I d c (by omega) S' ok' hS') okk hck
      have hfin : ∀ Q, Q = stpI ps x y (addI ps x y d) ((L.take k).foldl (stpI ps x y (addI ps x y d)) S) c → Q = (L.take (k + 1)).foldl (stpI ps x y (addI ps x y d)) S := fun Q h => by rw [h, hst]
      have hIn : k + 1 ≤ L.length ∧ Ok ps I ((L.take (k + 1)).foldl (stpI ps x y (addI ps x y d)) S) ∧ ∀ m, ((L.take (k + 1)).foldl (stpI ps x y (addI ps x y d)) S).1 m = true → p < m → clo ps x y I ((L.take (k + 1)).foldl (stpI ps x y (addI ps x y d)) S).2 m := by
        rw [hst]; exact ⟨hlt, hW.ok, hW.cl⟩
      have hai := alive_impl ps[c] y
      generalize ps[c] = q at hgp hal hai
      obtain ⟨nm, sx, fa, mo, bo, di⟩ := q
      unfold sucLV famLV Cus.lv uLV
      generalize hS : (L.take k).foldl (stpI ps x y (addI ps x y d)) S = Sk at okk hck hW hst hfin
      obtain ⟨M, out⟩ := Sk
      ((repeat ((conv => whnf); first | refine brT ?_ | refine brF ?_)); conv => whnf)
      refine ⟨k, _, rfl, hg, rfl, ?_⟩
      ((repeat ((conv => whnf); first | refine brT ?_ | refine brF ?_)); conv => whnf)
      refine ⟨true, by kernel_rfl, ?_⟩
      ((repeat ((conv => whnf); first | refine brT ?_ | refine brF ?_)); conv => whnf)
      refine ⟨rfl, by simp, _, rfl, rfl, by simp, ?_⟩
      ((repeat ((conv => whnf); first | refine brT ?_ | refine brF ?_)); conv => whnf)
      refine ⟨rfl, by simp, _, rfl, rfl, by simp, ?_⟩
      ((repeat ((conv => whnf); first | refine brT ?_ | refine brF ?_)); conv => whnf)
      refine ⟨rfl, by simp, _, rfl, rfl, rfl, ?_⟩
      ((repeat ((conv => whnf); first | refine brT ?_ | refine brF ?_)); conv => whnf)
      refine ⟨c, _, rfl, hgp, rfl, ?_⟩
      ((repeat ((conv => whnf); first | refine brT ?_ | refine brF ?_)); conv => whnf)
      refine ⟨rfl, by simp, _, rfl, rfl, by simp, ?_⟩
      ((repeat ((conv => whnf); first | refine brT ?_ | refine brF ?_)); conv => whnf)
      refine ⟨rfl, by simp, _, rfl, rfl, rfl, ?_⟩
      ((repeat ((conv => whnf); first | refine brT ?_ | refine brF ?_)); conv => whnf)
      refine ⟨_, hai, ?_⟩
      ((repeat ((conv => whnf); first | refine brT ?_ | refine brF ?_)); conv => whnf)
      refine ⟨rfl, by simp, _, rfl, rfl, by simp, ?_⟩
      ((repeat ((conv => whnf); first | refine brT ?_ | refine brF ?_)); conv => whnf)
      refine ⟨rfl, _, _, rfl, rfl, ?_⟩
      ((repeat ((conv => whnf); first | refine brT ?_ | refine brF ?_)); conv => whnf)
      refine ⟨rfl, rfl, ?_⟩
      ((repeat ((conv => whnf); first | refine brT ?_ | refine brF ?_)); conv => whnf)
      have hhas := has_spec ps.length M c hcn h40
      unfold uLV at hhas
      refine ⟨_, hhas, ?_⟩
      ((repeat ((conv => whnf); first | refine brT ?_ | refine brF ?_)); conv => whnf)
      have skip : (M c || (notB (alv ps y c) && notB x.repr)) = true → stpI ps x y (addI ps x y d) (M, out) c = (M, out) := fun h => by
        unfold stpI; simp only [h]
      have go1 : (M c || (notB (alv ps y c) && notB x.repr)) = false → stpI ps x y (addI ps x y d) (M, out) c = addI ps x y d c (insP M c, match alv ps y c with | true => out ++ [c] | false => out) := fun h => by
        unfold stpI; simp only [h]; rfl
      rw [hal] at skip go1
      generalize aliveB ⟨nm, sx, fa, mo, bo, di⟩ y = A at skip go1 hal ⊢
      cases hM : M c
      · cases A
        · ((repeat ((conv => whnf); first | refine brT ?_ | refine brF ?_)); conv => whnf)
          rw [show notB false = true by simp [notB]]
          ((repeat ((conv => whnf); first | refine brT ?_ | refine brF ?_)); conv => whnf)
          refine ⟨rfl, by simp, _, rfl, rfl, by simp, ?_⟩
          ((repeat ((conv => whnf); first | refine brT ?_ | refine brF ?_)); conv => whnf)
          refine ⟨rfl, by simp, _, rfl, rfl, by simp, ?_⟩
          ((repeat ((conv => whnf); first | refine brT ?_ | refine brF ?_)); conv => whnf)
          refine ⟨rfl, _, _, rfl, rfl, ?_⟩
          ((repeat ((conv => whnf); first | refine brT ?_ | refine brF ?_)); conv => whnf)
          refine ⟨rfl, rfl, ?_⟩
          ((repeat ((conv => whnf); first | refine brT ?_ | refine brF ?_)); conv => whnf)
          (refine ⟨fun g5 => ?_, fun g5 => ?_⟩ <;> rw [g5])
          · have e5 := hfin (M, out) (by rw [skip (by rw [hM, g5]; simp [notB])])
            ((repeat ((conv => whnf); first | refine brT ?_ | refine brF ?_)); conv => whnf)
            subst hK
            refine round_endR [.old 0] (k + 1) hIn (by omega) ⟨?_, ⟨rfl, congrArg (fun Q => Blk.tree 88 8 [sucLV ps us x y Q]) e5, trivial⟩, rfl⟩
            ((repeat ((conv => whnf); first | refine ⟨rfl, e, ?_⟩ | refine ⟨rfl, rfl, ?_⟩)); trivial)
          · have e5 := hfin _ (go1 (by rw [hM, g5]; simp [notB])).symm
            have hIn2 := stp_in hpc hcn okk hck hM (.inl rfl)
            have hIH := addBelow_h hf x y I d c (by omega) hcn (insP M c, out) hIn2.1 hIn2.2
            have hAd := add_h ps us x y (M, out) c hcn h40
            unfold sucLV famLV Cus.lv uLV at hAd
            ((repeat ((conv => whnf); first | refine brT ?_ | refine brF ?_)); conv => whnf)
            refine ⟨rfl, by simp, _, rfl, rfl, by simp, ?_⟩
            ((repeat ((conv => whnf); first | refine brT ?_ | refine brF ?_)); conv => whnf)
            refine ⟨[0], _, _, _, _, hAd, rfl, rfl, rfl, trivial, ?_⟩
            ((repeat ((conv => whnf); first | refine brT ?_ | refine brF ?_)); conv => whnf)
            unfold sucLV famLV Cus.lv uLV at hIH
            refine ⟨[0], _, _, _, _, hIH, rfl, rfl, rfl, trivial, ?_⟩
            ((repeat ((conv => whnf); first | refine brT ?_ | refine brF ?_)); conv => whnf)
            subst hK
            refine round_endR [.old 0] (k + 1) hIn (by omega) ⟨?_, ⟨rfl, congrArg (fun Q => Blk.tree 88 8 [sucLV ps us x y Q]) e5, trivial⟩, rfl⟩
            ((repeat ((conv => whnf); first | refine ⟨rfl, e, ?_⟩ | refine ⟨rfl, rfl, ?_⟩)); trivial)
        · have e5 := hfin _ (go1 (by rw [hM]; simp [notB])).symm
          have hIn2 := stp_in hpc hcn okk hck hM (.inr rfl)
          have hIH := addBelow_h hf x y I d c (by omega) hcn (insP M c, out ++ [c]) hIn2.1 hIn2.2
          have hAd := add_h ps us x y (M, out) c hcn h40
          have hol : (out ++ [c]).length ≤ ps.length := hIn2.1.len
          unfold sucLV famLV Cus.lv uLV at hAd
          ((repeat ((conv => whnf); first | refine brT ?_ | refine brF ?_)); conv => whnf)
          rw [show notB true = false by simp [notB]]
          ((repeat ((conv => whnf); first | refine brT ?_ | refine brF ?_)); conv => whnf)
          refine ⟨rfl, by simp, _, rfl, rfl, by simp, ?_⟩
          ((repeat ((conv => whnf); first | refine brT ?_ | refine brF ?_)); conv => whnf)
          refine ⟨[0], _, _, _, _, hAd, rfl, rfl, rfl, trivial, ?_⟩
          ((repeat ((conv => whnf); first | refine brT ?_ | refine brF ?_)); conv => whnf)
          refine ⟨rfl, by simp, _, rfl, rfl, by simp, ?_⟩
          ((repeat ((conv => whnf); first | refine brT ?_ | refine brF ?_)); conv => whnf)
          refine ⟨rfl, _, _, rfl, rfl, ?_⟩
          ((repeat ((conv => whnf); first | refine brT ?_ | refine brF ?_)); conv => whnf)
          refine ⟨rfl, ?_⟩
          have e6 : out.map natLV ++ [LV.int .i64 (c : Int)] = (out ++ [c]).map natLV := by rw [List.map_append]; rfl
          ((repeat ((conv => whnf); first | refine brT ?_ | refine brF ?_)); conv => whnf)
          refine ⟨rfl, ?_, ?_, ?_⟩
          · rw [e6, List.length_map]; unfold Go.maxLen; omega
          · rw [e6, List.length_map]; show (out ++ [c]).length * 8 ≤ _; omega
          rw [e6]
          ((repeat ((conv => whnf); first | refine brT ?_ | refine brF ?_)); conv => whnf)
          refine ⟨rfl, by simp, _, rfl, rfl, by simp, ?_⟩
          ((repeat ((conv => whnf); first | refine brT ?_ | refine brF ?_)); conv => whnf)
          refine ⟨rfl, ?_⟩
          ((repeat ((conv => whnf); first | refine brT ?_ | refine brF ?_)); conv => whnf)
          refine ⟨rfl, rfl, _, _, _, rfl, rfl, rfl, rfl, ?_⟩
          ((repeat ((conv => whnf); first | refine brT ?_ | refine brF ?_)); conv => whnf)
          unfold sucLV famLV Cus.lv uLV at hIH
          refine ⟨[0], _, _, _, _, hIH, rfl, rfl, rfl, trivial, ?_⟩
          ((repeat ((conv => whnf); first | refine brT ?_ | refine brF ?_)); conv => whnf)
          subst hK
          refine round_endR [.old 0] (k + 1) hIn (by omega) ⟨?_, ⟨rfl, congrArg (fun Q => Blk.tree 88 8 [sucLV ps us x y Q]) e5, trivial⟩, rfl⟩
          ((repeat ((conv => whnf); first | refine ⟨rfl, e, ?_⟩ | refine ⟨rfl, rfl, ?_⟩)); trivial)
      · have e5 := hfin (M, out) (by rw [skip (by rw [hM]; rfl)])
        ((repeat ((conv => whnf); first | refine brT ?_ | refine brF ?_)); conv => whnf)
        subst hK
        refine round_endR [.old 0] (k + 1) hIn (by omega) ⟨?_, ⟨rfl, congrArg (fun Q => Blk.tree 88 8 [sucLV ps us x y Q]) e5, trivial⟩, rfl⟩
        ((repeat ((conv => whnf); first | refine ⟨rfl, e, ?_⟩ | refine ⟨rfl, rfl, ?_⟩)); trivial)
    · have h4 : k = L.length := by rw [ltI_f] at g1; omega
      subst h4
      subst hK
      have e9 : (L.take L.length).foldl (stpI ps x y (addI ps x y d)) S = L.foldl (stpI ps x y (addI ps x y d)) S := by rw [List.take_length]
      rw [e9]
      unfold sucLV famLV Cus.lv uLV
      ((repeat ((conv => whnf); first | refine brT ?_ | refine brF ?_)); conv => whnf)
      exact ⟨[], rfl, rfl, .inr ⟨[.old 0], trivial, ⟨rfl, rfl, trivial⟩, rfl⟩⟩
end Go.Proofs.Ytbiagkccgijdlaa


namespace Go.Proofs.Ytbiagkccgijdlaa
open Go.Lg Go.Pm
set_option maxHeartbeats 6400000
set_option maxRecDepth 10000
set_option linter.unusedVariables false
set_option linter.unusedSimpArgs false

/-! ### The heirs below, as the model finds them -/
def seenB (I : Nat → Bool) (out : List Nat) (q : Nat) : Bool := I q || out.contains q
def mkL (n : Nat) (M : Nat → Bool) : List LV := ((List.range n).map M).map bLV
theorem mkL_len (n : Nat) (M : Nat → Bool) : (mkL n M).length = n := by simp [mkL]
theorem mkL_get {n : Nat} {M : Nat → Bool} {i : Nat} (h : i < n) : (mkL n M)[i]? = some (.bool (M i)) := by simp [mkL, h, bLV]
theorem mkL_set {n : Nat} {M M' : Nat → Bool} {i : Nat} (h : ∀ j, j < n → M' j = if j = i then true else M j) : (mkL n M).set i (.bool true) = mkL n M' := by
  apply List.ext_getElem (by simp [mkL])
  intro j h1 h2
  have hj : j < n := by simpa [mkL] using h2
  rw [List.getElem_set]
  simp only [mkL, List.getElem_map, List.getElem_range, bLV]
  rw [h j hj]
  by_cases e : i = j
  · subst e; simp
  · have : ¬ j = i := fun e2 => e e2.symm
    simp [e, this]
def stB (ps : List Per) (x : Cus) (y : Int) (I : Nat → Bool) (out : List Nat) (c : Nat) : List Nat := fldO I out (brN ps x y c)
theorem stB_fold (ps : List Per) (x : Cus) (y : Int) (I : Nat → Bool) : ∀ (L out : List Nat), L.foldl (stB ps x y I) out = fldO I out (L.flatMap (brN ps x y))
  | [], out => rfl
  | c :: L, out => by
    rw [List.foldl_cons, stB_fold ps x y I L, List.flatMap_cons, fldO_app]
    rfl
theorem alv_late {ps : List Per} {us : List Uni} (hf : famOk ps us = true) {y : Int} {i : Nat} (hi : i < ps.length) (h : y < ps[i].born) : alv ps y i = false := by
  simp only [alv, List.getElem?_eq_getElem hi, aliveB]
  rw [show leI ps[i].born y = false by rw [leI_f]; omega]
  rfl
theorem child_late {ps : List Per} {us : List Uni} (hf : famOk ps us = true) {p i : Nat} (hi : i < ps.length) (hp : p < ps.length) (h : chQ ps (p : Int) i = true) : ps[p].born < ps[i].born := by
  obtain ⟨_, _, hpp, _, _⟩ := famOk_parts hf
  obtain ⟨_, _, _, _, _, _, p1, p2⟩ := personOk_spec (personsTo_get hpp hi hi)
  simp only [chQ, List.getElem?_eq_getElem hi, chB, Bool.or_eq_true, eqI_t] at h
  have key : ∀ {x s : Int}, parentOk (ps.take i) x s ps[i].born = true → x = (p : Int) → ps[p].born < ps[i].born := fun {x s} h e => by
    unfold parentOk at h
    simp only [Bool.or_eq_true, eqI_t, Bool.and_eq_true, leI_t] at h
    rcases h with h | ⟨h0, h1⟩
    · omega
    · split at h1
      · cases h1
      · rename_i q hq
        obtain ⟨hl, e2⟩ := List.getElem?_eq_some_iff.1 hq
        simp only [Bool.and_eq_true, eqI_t] at h1
        rw [List.getElem_take] at e2
        have : x.toNat = p := by omega
        subst this
        have := h1.2.1
        rw [ltI_t, ← e2] at this
        exact this
  rcases h with h | h
  · exact key p1 h
  · exact key p2 h
theorem late_none {ps : List Per} {us : List Uni} (hf : famOk ps us = true) (x : Cus) (y : Int) : ∀ (d p : Nat), ps.length ≤ p + d → ∀ (hp : p < ps.length), y < ps[p].born → desN ps x y p = []
  | 0, p, h, hp, hy => by omega
  | d + 1, p, h, hp, hy => by
    rw [desN_eq (fam_pi hf)]
    rw [List.flatMap_eq_nil_iff]
    intro c hc
    obtain ⟨hcn, hpc, hch⟩ := ordL_mem (fam_pi hf) hc
    have hb := child_late hf hcn hp hch
    have ha := alv_late hf (y := y) hcn (by omega)
    have hn := late_none hf x y d c (by omega) hcn (by omega)
    unfold brN ownN
    rw [ha, hn]
    cases x.repr <;> rfl
theorem br_late {ps : List Per} {us : List Uni} (hf : famOk ps us = true) (x : Cus) (y : Int) {c : Nat} (hc : c < ps.length) (h : y < ps[c].born) : brN ps x y c = [] := by
  unfold brN ownN
  rw [alv_late hf hc h, late_none hf x y ps.length c (by omega) hc h]
  cases x.repr <;> rfl
theorem fldO_lt {I : Nat → Bool} {n : Nat} {l out : List Nat} (ho : ∀ q ∈ out, q < n) (hl : ∀ q ∈ l, q < n) : ∀ q ∈ fldO I out l, q < n := fun q hq => by
  rcases fldO_mem I l out q hq with h | ⟨h, _⟩
  · exact ho q h
  · exact hl q h
theorem below_h {ps : List Per} {us : List Uni} (hf : famOk ps us = true) (x : Cus) (y : Int) (I : Nat → Bool) : ∀ (d p : Nat), ps.length ≤ p + d → p < ps.length → ∀ out : List Nat, out.Nodup → (∀ q ∈ out, q < ps.length) →
    HSpec env.P 67 [famLV ps us, x.lv, .int .i64 (p : Int), .int .i64 y, .hs 0 ps.length, .hs 1 (out.map natLV).length] [.arr 4 1 (mkL ps.length (seenB I out)), .arr 3 1 (out.map natLV)]
      (.hs 2 ((fldO I out (desN ps x y p)).map natLV).length) [.arr 4 1 (mkL ps.length (seenB I (fldO I out (desN ps x y p)))), .dead, .arr 3 1 ((fldO I out (desN ps x y p)).map natLV)]
  | 0, p, h, hp, out, hnd, hlt => by omega
  | d + 1, p, h, hp, out, hnd, hlt => by
    refine HSpec_of_code (E := env.x [67] 2) env_ok.x (fn := Try.f67) Try.func67 rfl Try.call67 _ _ _ _ ?_
    have h40 := fam_40 hf
    have hO : FSpec env.P 58 [famLV ps us, x.lv, .int .i64 (p : Int)] (.own 3 1 ((ordL ps x (p : Int)).map natLV)) := by
      rw [← chl_ord hf x (p : Int)]
      exact FSpec_of_HSpec (l10Children_h ps us x (p : Int) h40) (by simp [exW])
    have hLm : ∀ c ∈ ordL ps x (p : Int), p < c ∧ c < ps.length := fun c hc => ⟨(ordL_mem (fam_pi hf) hc).2.1, (ordL_mem (fam_pi hf) hc).1⟩
    have hLl := ordL_len ps x (p : Int)
    rw [desN_eq (fam_pi hf) x y p, ← stB_fold]
    generalize ordL ps x (p : Int) = L at hLm hLl hO
    have hN := nats_len L
    have hml : ∀ M, (mkL ps.length M).length = ps.length := mkL_len ps.length
    have hnl : ∀ l : List Nat, (l.map natLV).length = l.length := nats_len
    have hnd : ∀ l, (fldO I out l).Nodup := fun l => fldO_nodup I l out hnd
    have hsl : ∀ k, k ≤ L.length → ∀ q ∈ (L.take k).foldl (stB ps x y I) out, q < ps.length := fun k hk => by
      rw [stB_fold]
      refine fldO_lt hlt fun q hq => ?_
      obtain ⟨c, hc, hq⟩ := List.mem_flatMap.1 hq
      have hcL := hLm c (List.mem_of_mem_take hc)
      unfold brN ownN at hq
      rcases List.mem_append.1 hq with hq | hq
      · split at hq <;> simp at hq
        omega
      · split at hq
        · exact (desN_mem (fam_pi hf) x y ps.length c (by omega) q hq).2.1
        · simp at hq
    have hsn : ∀ k, ((L.take k).foldl (stB ps x y I) out).Nodup := fun k => by rw [stB_fold]; exact hnd _
    unfold famLV Cus.lv at hO ⊢
    ((repeat ((conv => whnf); first | refine brT ?_ | refine brF ?_)); conv => whnf)
    refine ⟨_, hO, ?_⟩
    ((repeat ((conv => whnf); first | refine brT ?_ | refine brF ?_)); conv => whnf)
    intro _
    rw [hN]
    ((repeat ((conv => whnf); first | refine brT ?_ | refine brF ?_)); conv => whnf)
    refine loop_ruleR (α := Nat) [.old 0, .gone, .old 2, .old 3, .old 1] (fun k => [(21, .int .i64 (k : Int)), (5, .hs 4 (((L.take k).foldl (stB ps x y I) out).map natLV).length)])
      (fun k => [.arr 4 1 (mkL ps.length (seenB I ((L.take k).foldl (stB ps x y I) out))), .dead, .box (famLV ps us), .box x.lv, .arr 3 1 (((L.take k).foldl (stB ps x y I) out).map natLV)]) (fun k => L.length - k) (fun k => k ≤ L.length) 0 (Nat.zero_le _) ?_ ?_
    · refine ⟨?_, ⟨rfl, rfl, rfl, rfl, rfl, rfl, rfl, rfl, trivial⟩, rfl⟩
      ((repeat ((conv => whnf); refine ⟨rfl, rfl, ?_⟩)); trivial)
    intro k hk
    generalize hK : kk _ = KK
    unfold famLV Cus.lv
    ((repeat ((conv => whnf); first | refine brT ?_ | refine brF ?_)); conv => whnf)
    (refine ⟨fun g1 => ?_, fun g1 => ?_⟩ <;> rw [g1])
    · have hlt : k < L.length := by rw [ltI_t] at g1; omega
      have e := step_i hlt (by unfold Go.maxLen; omega)
      obtain ⟨hpc, hcn⟩ := hLm L[k] (List.getElem_mem hlt)
      have hg : (L.map natLV)[k]? = some (.int .i64 (L[k] : Int)) := by rw [List.getElem?_map, List.getElem?_eq_getElem hlt]; rfl
      have hgp : (ps.map Per.lv)[L[k]]? = some ps[L[k]].lv := by simp [hcn]
      have hst : (L.take (k + 1)).foldl (stB ps x y I) out = stB ps x y I ((L.take k).foldl (stB ps x y I) out) L[k] := by
        rw [List.take_succ_eq_append_getElem hlt, List.foldl_append]; rfl
      have hlate : y < ps[L[k]].born → brN ps x y L[k] = [] := fun hh => br_late hf x y hcn hh
      have hal := alive_spec ps us L[k] y hcn
      generalize L[k] = c at hpc hcn hg hgp hst hlate hal
      have hs0 := hsl k hk
      have hs1 := hsl (k + 1) hlt
      have hn0 := hsn k
      generalize hS1 : (L.take (k + 1)).foldl (stB ps x y I) out = R at hst hs1
      have hfin : ∀ Q, Q = R → Q = (L.take (k + 1)).foldl (stB ps x y I) out := fun Q h => h.trans hS1.symm
      generalize hS : (L.take k).foldl (stB ps x y I) out = out0 at hst hs0 hn0
      have h0l : out0.length ≤ ps.length := nodup_lt _ _ hn0 hs0
      have hbo : ∀ (q : Per), (ps.map Per.lv)[c]? = some q.lv → ps[c].lv = q.lv := fun q h => by rw [hgp] at h; exact Option.some.inj h
      generalize ps[c] = q at hgp hlate hbo
      clear hbo
      obtain ⟨nm, sx, fa, mo, bo, di⟩ := q
      unfold famLV at hal
      ((repeat ((conv => whnf); first | refine brT ?_ | refine brF ?_)); conv => whnf)
      refine ⟨k, _, rfl, hg, rfl, ?_⟩
      ((repeat ((conv => whnf); first | refine brT ?_ | refine brF ?_)); conv => whnf)
      refine ⟨c, _, rfl, hgp, rfl, ?_⟩
      ((repeat ((conv => whnf); first | refine brT ?_ | refine brF ?_)); conv => whnf)
      (refine ⟨fun g2 => ?_, fun g2 => ?_⟩ <;> rw [g2])
      · have e5 : R = out0 := by
          rw [hst]; unfold stB
          rw [hlate (by rw [ltI_t] at g2; exact g2)]; rfl
        ((repeat ((conv => whnf); first | refine brT ?_ | refine brF ?_)); conv => whnf)
        have e7 := hfin out0 e5.symm
        subst hK
        have e8 : LV.hs 4 ((out0).map natLV).length = LV.hs 4 (((L.take (k + 1)).foldl (stB ps x y I) out).map natLV).length := by rw [← e7]
        refine round_endR [.old 0, .gone, .old 2, .old 3, .old 4] (k + 1) hlt (by omega) ⟨?_, ⟨rfl, congrArg (fun o => Blk.arr 4 1 (mkL ps.length (seenB I o))) e7, rfl, rfl, rfl, rfl, rfl, congrArg (fun o : List Nat => Blk.arr 3 1 (o.map natLV)) e7, trivial⟩, rfl⟩
        repeat ((conv => whnf); first | refine ⟨rfl, e, ?_⟩ | refine ⟨rfl, e8, ?_⟩ | refine ⟨rfl, rfl, ?_⟩)
        trivial
      ((repeat ((conv => whnf); first | refine brT ?_ | refine brF ?_)); conv => whnf)
      refine ⟨_, hal, ?_⟩
      have hbr : brN ps x y c = (match alv ps y c with | true => [c] | false => []) ++ (match alv ps y c || x.repr with | true => desN ps x y c | false => []) := rfl
      generalize alv ps y c = A at hal hbr
      cases A
      · ((repeat ((conv => whnf); first | refine brT ?_ | refine brF ?_)); conv => whnf)
        (refine ⟨fun g5 => ?_, fun g5 => ?_⟩ <;> rw [g5])
        · have hIH := below_h hf x y I d c (by omega) hcn out0 hn0 hs0
          unfold famLV Cus.lv at hIH
          rw [g5] at hIH
          have e5 : R = fldO I out0 (desN ps x y c) := by rw [hst]; unfold stB; rw [hbr, g5]; rfl
          have e7 := hfin _ e5.symm
          ((repeat ((conv => whnf); first | refine brT ?_ | refine brF ?_)); conv => whnf)
          refine ⟨[0, 4], _, _, _, _, hIH, rfl, rfl, rfl, trivial, ?_⟩
          ((repeat ((conv => whnf); first | refine brT ?_ | refine brF ?_)); conv => whnf)
          subst hK
          have e8 : LV.hs 4 ((fldO I out0 (desN ps x y c)).map natLV).length = LV.hs 4 (((L.take (k + 1)).foldl (stB ps x y I) out).map natLV).length := by rw [← e7]
          refine round_endR [.old 0, .gone, .old 2, .old 3, .old 5] (k + 1) hlt (by omega) ⟨?_, ⟨rfl, congrArg (fun o => Blk.arr 4 1 (mkL ps.length (seenB I o))) e7, rfl, rfl, rfl, rfl, rfl, congrArg (fun o : List Nat => Blk.arr 3 1 (o.map natLV)) e7, trivial⟩, rfl⟩
          repeat ((conv => whnf); first | refine ⟨rfl, e, ?_⟩ | refine ⟨rfl, e8, ?_⟩ | refine ⟨rfl, rfl, ?_⟩)
          trivial
        · have e5 : R = out0 := by rw [hst]; unfold stB; rw [hbr, g5]; rfl
          have e7 := hfin _ e5.symm
          ((repeat ((conv => whnf); first | refine brT ?_ | refine brF ?_)); conv => whnf)
          subst hK
          have e8 : LV.hs 4 ((out0).map natLV).length = LV.hs 4 (((L.take (k + 1)).foldl (stB ps x y I) out).map natLV).length := by rw [← e7]
          refine round_endR [.old 0, .gone, .old 2, .old 3, .old 4] (k + 1) hlt (by omega) ⟨?_, ⟨rfl, congrArg (fun o => Blk.arr 4 1 (mkL ps.length (seenB I o))) e7, rfl, rfl, rfl, rfl, rfl, congrArg (fun o : List Nat => Blk.arr 3 1 (o.map natLV)) e7, trivial⟩, rfl⟩
          repeat ((conv => whnf); first | refine ⟨rfl, e, ?_⟩ | refine ⟨rfl, e8, ?_⟩ | refine ⟨rfl, rfl, ?_⟩)
          trivial
      · ((repeat ((conv => whnf); first | refine brT ?_ | refine brF ?_)); conv => whnf)
        refine ⟨(hml _).symm, rfl, c, rfl, by rw [hml]; exact hcn, ?_⟩
        ((repeat ((conv => whnf); first | refine brT ?_ | refine brF ?_)); conv => whnf)
        refine ⟨(hml _).symm, by simp, _, getP1 (mkL_get hcn), rfl, ?_⟩
        ((repeat ((conv => whnf); first | refine brT ?_ | refine brF ?_)); conv => whnf)
        cases hsc : seenB I out0 c
        · rw [show notB false = true by simp [notB]]
          ((repeat ((conv => whnf); first | refine brT ?_ | refine brF ?_)); conv => whnf)
          refine ⟨(hml _).symm, rfl, c, rfl, by rw [hml]; exact hcn, ?_⟩
          ((repeat ((conv => whnf); first | refine brT ?_ | refine brF ?_)); conv => whnf)
          have hse : (mkL ps.length (seenB I out0)).set c (.bool true) = mkL ps.length (seenB I (out0 ++ [c])) := mkL_set fun j _ => by
            unfold seenB
            rw [List.contains_append]
            by_cases e : j = c
            · subst e; simp
            · simp [e]
          refine ⟨(hml _).symm, c, [], _, rfl, getP1 (mkL_get hcn), rfl, rfl, rfl, mkL ps.length (seenB I (out0 ++ [c])), by rw [mkL_get hcn]; exact hse, ?_⟩
          have e9 : out0.map natLV ++ [LV.int .i64 (c : Int)] = (out0 ++ [c]).map natLV := by rw [List.map_append]; rfl
          have hcI : c ∉ out0 ∧ I c = false := by
            unfold seenB at hsc
            rw [Bool.or_eq_false_iff] at hsc
            exact ⟨by simpa using hsc.2, hsc.1⟩
          have hn1 : (out0 ++ [c]).Nodup := by
            rw [List.nodup_append]
            refine ⟨hn0, by simp, fun a ha b hb => ?_⟩
            simp at hb; subst hb
            intro e2; subst e2; exact hcI.1 ha
          have hl1 : ∀ q ∈ out0 ++ [c], q < ps.length := fun q hq => by
            rcases List.mem_append.1 hq with h | h
            · exact hs0 q h
            · simp at h; omega
          have h1l : (out0 ++ [c]).length ≤ ps.length := nodup_lt _ _ hn1 hl1
          ((repeat ((conv => whnf); first | refine brT ?_ | refine brF ?_)); conv => whnf)
          refine ⟨rfl, rfl, ?_, ?_, ?_⟩
          · rw [e9, hnl]; unfold Go.maxLen; omega
          · rw [e9, hnl]; show (out0 ++ [c]).length * 8 ≤ _; omega
          rw [e9]
          have hIH := below_h hf x y I d c (by omega) hcn (out0 ++ [c]) hn1 hl1
          unfold famLV Cus.lv at hIH
          have e5 : R = fldO I (out0 ++ [c]) (desN ps x y c) := by
            rw [hst]; unfold stB; rw [hbr]
            simp only [Bool.true_or]
            rw [fldO_app]
            congr 1
            show stpO I out0 c = out0 ++ [c]
            unfold stpO
            rw [show (I c || out0.contains c) = false from hsc]
          have e7 := hfin _ e5.symm
          ((repeat ((conv => whnf); first | refine brT ?_ | refine brF ?_)); conv => whnf)
          refine ⟨[0, 6], _, _, _, _, hIH, rfl, rfl, rfl, trivial, ?_⟩
          ((repeat ((conv => whnf); first | refine brT ?_ | refine brF ?_)); conv => whnf)
          subst hK
          have e8 : LV.hs 4 ((fldO I (out0 ++ [c]) (desN ps x y c)).map natLV).length = LV.hs 4 (((L.take (k + 1)).foldl (stB ps x y I) out).map natLV).length := by rw [← e7]
          refine round_endR [.old 0, .gone, .old 2, .old 3, .old 7] (k + 1) hlt (by omega) ⟨?_, ⟨rfl, congrArg (fun o => Blk.arr 4 1 (mkL ps.length (seenB I o))) e7, rfl, rfl, rfl, rfl, rfl, congrArg (fun o : List Nat => Blk.arr 3 1 (o.map natLV)) e7, trivial⟩, rfl⟩
          repeat ((conv => whnf); first | refine ⟨rfl, e, ?_⟩ | refine ⟨rfl, e8, ?_⟩ | refine ⟨rfl, rfl, ?_⟩)
          trivial
        · rw [show notB true = false by simp [notB]]
          have hIH := below_h hf x y I d c (by omega) hcn out0 hn0 hs0
          unfold famLV Cus.lv at hIH
          have e5 : R = fldO I out0 (desN ps x y c) := by
            rw [hst]; unfold stB; rw [hbr]
            simp only [Bool.true_or]
            rw [fldO_app]
            congr 1
            show stpO I out0 c = out0
            unfold stpO
            rw [show (I c || out0.contains c) = true from hsc]
          have e7 := hfin _ e5.symm
          ((repeat ((conv => whnf); first | refine brT ?_ | refine brF ?_)); conv => whnf)
          refine ⟨[0, 4], _, _, _, _, hIH, rfl, rfl, rfl, trivial, ?_⟩
          ((repeat ((conv => whnf); first | refine brT ?_ | refine brF ?_)); conv => whnf)
          subst hK
          have e8 : LV.hs 4 ((fldO I out0 (desN ps x y c)).map natLV).length = LV.hs 4 (((L.take (k + 1)).foldl (stB ps x y I) out).map natLV).length := by rw [← e7]
          refine round_endR [.old 0, .gone, .old 2, .old 3, .old 5] (k + 1) hlt (by omega) ⟨?_, ⟨rfl, congrArg (fun o => Blk.arr 4 1 (mkL ps.length (seenB I o))) e7, rfl, rfl, rfl, rfl, rfl, congrArg (fun o : List Nat => Blk.arr 3 1 (o.map natLV)) e7, trivial⟩, rfl⟩
          repeat ((conv => whnf); first | refine ⟨rfl, e, ?_⟩ | refine ⟨rfl, e8, ?_⟩ | refine ⟨rfl, rfl, ?_⟩)
          trivial
    · have h4 : k = L.length := by rw [ltI_f] at g1; omega
      subst h4
      subst hK
      rw [List.take_length]
      ((repeat ((conv => whnf); first | refine brT ?_ | refine brF ?_)); conv => whnf)
      exact ⟨[.hs 2 ((L.foldl (stB ps x y I) out).map natLV).length], rfl, rfl, .inr ⟨[.old 0, .gone, .old 4], ⟨rfl, rfl, trivial⟩, ⟨rfl, rfl, rfl, rfl, trivial⟩, rfl⟩⟩
end Go.Proofs.Ytbiagkccgijdlaa


namespace Go.Proofs.Ytbiagkccgijdlaa
open Go.Lg Go.Pm
set_option maxHeartbeats 3200000
set_option maxRecDepth 10000
set_option linter.unusedVariables false
set_option linter.unusedSimpArgs false

theorem HSpec_nilArg {P : Program} {f : FuncId} {args args' : List LV} {Hin Hout : List Blk} {r : LV} {i e k : Nat} (h : HSpec P f args' (Hin ++ [.row false e k []]) r Hout) (hi : args[i]? = some .nil) (ha : args' = args.set i (.hs Hin.length 0)) (hk : 0 < k) : HSpec P f args Hin r Hout := by
  subst ha
  unfold HSpec at h ⊢
  refine ⟨h.1, fun X B w vs pl g hsz hargs => ?_⟩
  have hu : ∀ b ∈ (Blk.row false e k []).feet ⟨.slice none 0 0, []⟩, w.heap.size ≤ b := by simp [Blk.feet, feet, hasBk]
  have hle := ctx_push g (Below.refl w.heap.size w) (u := ⟨.slice none 0 0, []⟩) (blk := .row false e k []) hu
  have g1 := g.push (Below.refl w.heap.size w) (u := ⟨.slice none 0 0, []⟩) (blk := .row false e k []) hu (by simp [Blk.feet, feet, hasBk]) ⟨[], World.ownsRow_nil w B e k, by simp [RCs], by simp, hk⟩
  refine (h.2 X B w vs _ ⟨g1.below, g1.base, g1.ok, g1.inj, g1.nd, g1.xlt, g1.keepX, g1.apart⟩ (by simpa using hsz) fun j x v hx hv => ?_).mono ?_
  · rw [List.getElem?_set] at hx
    split at hx
    · rename_i e'
      subst e'
      split at hx
      · cases hx
        have hn := hargs _ .nil v hi hv
        simp only [RT, RT1, RC] at hn ⊢
        exact ⟨v, rfl, by simp, ⟨none, 0, 0, by simpa using hn⟩, fun b xs _ _ _ => by rw [upd_same]; simpa using hn⟩
      · cases hx
    · exact RT.mono hle _ _ (hargs j x v hx hv)
  · rintro e' w' ⟨v, pl', he, hg, hr, hl⟩
    exact ⟨v, pl', he, ⟨hg.below, hg.base, hg.ok, hg.inj, hg.nd, hg.xlt, hg.keepX, hg.apart⟩, hr, hle.trans hl⟩
theorem bitsP_none (n : Nat) : bitsP n (fun _ => false) = 0 := by
  induction n with
  | zero => rfl
  | succ n ih => simp [bitsP, ih]
theorem mkL_none (n : Nat) : mkL n (seenB (fun _ => false) []) = List.replicate n (.bool false) := by
  apply List.ext_getElem (by simp [mkL])
  intro i h1 h2
  simp [mkL, seenB, bLV]
def noI : Nat → Bool := fun _ => false
def heirW (ps : List Per) (us : List Uni) (x : Cus) (p y : Int) : List Nat := match cusOk x with
  | false => []
  | true => match hasP ps us p with
    | false => []
    | true => fldO noI [] (desN ps x y p.toNat)
theorem heirs_len {ps : List Per} {us : List Uni} (hf : famOk ps us = true) (x : Cus) (y : Int) (p : Nat) (I : Nat → Bool) : (fldO I [] (desN ps x y p)).length ≤ ps.length :=
  nodup_lt _ _ (fldO_nodup I _ _ List.nodup_nil) fun q hq => by
    rcases fldO_mem I _ _ q hq with h | ⟨h, _⟩
    · simp at h
    · exact (desN_mem (fam_pi hf) x y ps.length p (by omega) q h).2.1
theorem heirW_len (ps : List Per) (us : List Uni) (x : Cus) (p y : Int) : (heirW ps us x p y).length ≤ 80 := by
  unfold heirW
  cases cusOk x
  · simp
  · cases h : hasP ps us p
    · simp
    · have := heirs_len (hasP_lt h).2.2 x y p.toNat noI
      have := (hasP_in h).2.2.1
      simp only
      omega
theorem noOk (ps : List Per) : Ok ps noI (noI, []) := ⟨fun q h => h, fun q h => by simp at h, List.nodup_nil, fun q h => by simp at h⟩
theorem heirs_impl (ps : List Per) (us : List Uni) (x : Cus) (p y : Int) : HSpec env.P 30 [famLV ps us, x.lv, .int .i64 p, .int .i64 y] [] (.hs 0 ((heirW ps us x p y).map natLV).length) [.arr 3 1 ((heirW ps us x p y).map natLV)] := by
  refine HSpec_of_code (E := { env.x [68] 0 with tb := [88] }) (env_ok.x.tbs _) (fn := Try.f30) Try.func30 rfl Try.call30 _ _ _ _ ?_
  have h1 := cus_impl x
  have hA : hasP ps us p = true → HSpec env.P 68 [.hp 0 1 [0], .int .i64 p] [.tree 88 8 [.st [famLV ps us, x.lv, .int .i64 y, .int .u64 0, .nil]]] (.tup []) [.tree 88 8 [sucLV ps us x y (addI ps x y ps.length p.toNat (noI, []))]] := fun h => by
    obtain ⟨p0, pl, hl, _⟩ := hasP_in h
    have hB := addBelow_h (hasP_lt h).2.2 x y noI ps.length p.toNat (by omega) pl (noI, []) (noOk ps) fun m hm => by cases hm
    refine HSpec_nilEl (i := 0) (p := [0, 4]) (ys := [sucLV ps us x y (noI, [])]) (e' := 3) (k' := 1) ?_ rfl rfl ?_ (by decide)
    · rw [show ((p.toNat : Nat) : Int) = p by omega] at hB
      exact hB
    · unfold sucLV noI
      simp only [bitsP_none]
      rfl
  have hR : hasP ps us p = true → (addI ps x y ps.length p.toNat (noI, [])).2 = fldO noI [] (desN ps x y p.toNat) := fun h => addI_start (hasP_in h).2.2.2 x y p.toNat
  unfold heirW
  generalize cusOk x = b at h1 ⊢
  unfold famLV Cus.lv at *
  ((repeat ((conv => whnf); first | refine brT ?_ | refine brF ?_)); conv => whnf)
  refine ⟨_, h1, ?_⟩
  ((repeat ((conv => whnf); first | refine brT ?_ | refine brF ?_)); conv => whnf)
  cases b
  · rw [show notB false = true by simp [notB]]
    ((repeat ((conv => whnf); first | refine brT ?_ | refine brF ?_)); conv => whnf)
    exact ⟨[.hs 0 0], rfl, rfl, .nl [.tmp 0 [] false 3 1] [.old 2] ⟨⟨rfl, rfl, trivial⟩, ⟨rfl, rfl, trivial⟩, rfl⟩⟩
  rw [show notB true = false by simp [notB]]
  ((repeat ((conv => whnf); first | refine brT ?_ | refine brF ?_)); conv => whnf)
  have hP := hasPerson_spec ps us p
  unfold famLV at hP
  refine ⟨_, hP, ?_⟩
  ((repeat ((conv => whnf); first | refine brT ?_ | refine brF ?_)); conv => whnf)
  cases h : hasP ps us p
  · rw [show notB false = true by simp [notB]]
    ((repeat ((conv => whnf); first | refine brT ?_ | refine brF ?_)); conv => whnf)
    exact ⟨[.hs 0 0], rfl, rfl, .nl [.tmp 0 [] false 3 1] [.old 2] ⟨⟨rfl, rfl, trivial⟩, ⟨rfl, rfl, trivial⟩, rfl⟩⟩
  rw [show notB true = false by simp [notB]]
  have hA := hA h
  rw [← hR h]
  ((repeat ((conv => whnf); first | refine brT ?_ | refine brF ?_)); conv => whnf)
  refine ⟨rfl, rfl, _, _, _, rfl, rfl, rfl, rfl, ?_⟩
  ((repeat ((conv => whnf); first | refine brT ?_ | refine brF ?_)); conv => whnf)
  refine ⟨[2], _, _, _, _, hA, rfl, rfl, rfl, trivial, ?_⟩
  ((repeat ((conv => whnf); first | refine brT ?_ | refine brF ?_)); conv => whnf)
  refine ⟨rfl, by simp, _, rfl, rfl, by simp, ?_⟩
  ((repeat ((conv => whnf); first | refine brT ?_ | refine brF ?_)); conv => whnf)
  refine ⟨rfl, _, _, rfl, rfl, ?_⟩
  ((repeat ((conv => whnf); first | refine brT ?_ | refine brF ?_)); conv => whnf)
  exact ⟨[.hs 0 ((addI ps x y ps.length p.toNat (noI, [])).2.map natLV).length], rfl, rfl, .inr ⟨[.old 3], ⟨rfl, rfl, trivial⟩, ⟨rfl, rfl, trivial⟩, rfl⟩⟩
theorem heirs_spec (ps : List Per) (us : List Uni) (x : Cus) (p y : Int) : HSpec env.P 29 [famLV ps us, x.lv, .int .i64 p, .int .i64 y] [] (.hs 0 ((heirW ps us x p y).map natLV).length) [.arr 3 1 ((heirW ps us x p y).map natLV)] := by
  refine HSpec_of_code (E := env.x [67] 0) env_ok.x (fn := Try.f29) Try.func29 rfl Try.call29 _ _ _ _ ?_
  have h1 := cus_spec x
  have hB : hasP ps us p = true → HSpec env.P 67 [famLV ps us, x.lv, .int .i64 p, .int .i64 y, .hs 0 ps.length, .nil] [.arr 4 1 (List.replicate ps.length (.bool false))]
      (.hs 2 ((fldO noI [] (desN ps x y p.toNat)).map natLV).length) [.arr 4 1 (mkL ps.length (seenB noI (fldO noI [] (desN ps x y p.toNat)))), .dead, .arr 3 1 ((fldO noI [] (desN ps x y p.toNat)).map natLV)] := fun h => by
    obtain ⟨p0, pl, hl, _⟩ := hasP_in h
    have hB := below_h (hasP_lt h).2.2 x y noI ps.length p.toNat (by omega) pl [] List.nodup_nil (fun q hq => by simp at hq)
    rw [show ((p.toNat : Nat) : Int) = p by omega, show mkL ps.length (seenB noI []) = List.replicate ps.length (.bool false) from mkL_none ps.length] at hB
    exact HSpec_nilArg (i := 5) (e := 3) (k := 1) hB rfl rfl (by decide)
  have hP' : (ps.map Per.lv).length = ps.length := List.length_map ..
  unfold heirW
  generalize cusOk x = b at h1 ⊢
  unfold famLV Cus.lv at *
  ((repeat ((conv => whnf); first | refine brT ?_ | refine brF ?_)); conv => whnf)
  refine ⟨_, h1, ?_⟩
  ((repeat ((conv => whnf); first | refine brT ?_ | refine brF ?_)); conv => whnf)
  cases b
  · rw [show notB false = true by simp [notB]]
    ((repeat ((conv => whnf); first | refine brT ?_ | refine brF ?_)); conv => whnf)
    exact ⟨[.hs 0 0], rfl, rfl, .nl [.tmp 0 [] false 3 1] [.old 2] ⟨⟨rfl, rfl, trivial⟩, ⟨rfl, rfl, trivial⟩, rfl⟩⟩
  rw [show notB true = false by simp [notB]]
  ((repeat ((conv => whnf); first | refine brT ?_ | refine brF ?_)); conv => whnf)
  have hP := l1Has_spec ps us p
  unfold famLV at hP
  refine ⟨_, hP, ?_⟩
  ((repeat ((conv => whnf); first | refine brT ?_ | refine brF ?_)); conv => whnf)
  cases h : hasP ps us p
  · rw [show notB false = true by simp [notB]]
    ((repeat ((conv => whnf); first | refine brT ?_ | refine brF ?_)); conv => whnf)
    exact ⟨[.hs 0 0], rfl, rfl, .nl [.tmp 0 [] false 3 1] [.old 2] ⟨⟨rfl, rfl, trivial⟩, ⟨rfl, rfl, trivial⟩, rfl⟩⟩
  rw [show notB true = false by simp [notB]]
  have hB := hB h
  have h40 := (hasP_in h).2.2.1
  generalize fldO noI [] (desN ps x y p.toNat) = L at hB ⊢
  ((repeat ((conv => whnf); first | refine brT ?_ | refine brF ?_)); conv => whnf)
  refine ⟨false, 0, 0, 2, [0, 1, 2, 3, 4, 5, 6], (.one 7 (.one 8 (.one 9 .done))), by kernel_rfl, by kernel_rfl, ?_⟩
  ((repeat ((conv => whnf); first | refine brT ?_ | refine brF ?_)); conv => whnf)
  intro _
  rw [hP']
  ((repeat ((conv => whnf); first | refine brT ?_ | refine brF ?_)); conv => whnf)
  apply Exists.intro
  apply Exists.intro
  refine And.intro ?_ ?_
  · ((repeat ((conv => whnf); first | refine brT ?_ | refine brF ?_)); conv => whnf)
    refine ⟨ps.length, rfl, rfl, by show 1 * ps.length ≤ _; omega, by unfold Go.maxLen; omega, rfl, by decide, ?_⟩
    ((repeat ((conv => whnf); first | refine brT ?_ | refine brF ?_)); conv => whnf)
    refine Weak.idn ?_ ?_ rfl
    · ((repeat ((conv => whnf); refine ⟨rfl, ?_⟩)); trivial)
    · exact ⟨rfl, rfl, rfl, trivial⟩
  ((repeat ((conv => whnf); first | refine brT ?_ | refine brF ?_)); conv => whnf)
  refine ⟨[2], _, _, _, _, hB, rfl, rfl, rfl, trivial, ?_⟩
  ((repeat ((conv => whnf); first | refine brT ?_ | refine brF ?_)); conv => whnf)
  exact ⟨[.hs 0 (L.map natLV).length], rfl, rfl, .inr ⟨[.old 4], ⟨rfl, rfl, trivial⟩, ⟨rfl, rfl, trivial⟩, rfl⟩⟩
theorem law_heirsBelow (ps : List Per) (us : List Uni) (x : Cus) (p y : Int) (hf : FamOK ps us) : FSpec env.P 7 [famLV ps us, x.lv, .int .i64 p, .int .i64 y] (.bool true) := by
  have hI := ints_h (heirs_impl ps us x p y)
  have hS := ints_f (ints_h (heirs_spec ps us x p y))
  have hF := ints_f hI
  have hl : (castL (heirW ps us x p y)).length ≤ 1048576 := by
    rw [castL_len]
    exact Nat.le_trans (heirW_len ps us x p y) (by omega)
  have hT := toCus_spec x
  generalize castL (heirW ps us x p y) = R at hI hS hF hl
  obtain ⟨pr, yo, re⟩ := x
  refine FSpec_of_code (E := env.x [22, 30, 26, 27] 0) env_ok.x (fn := Try.f7) Try.func7 rfl Try.call7 _ _ ?_
  ((repeat ((conv => whnf); first | refine brT ?_ | refine brF ?_)); conv => whnf)
  refine ⟨_, szFamily_spec ps us _, ?_⟩
  ((repeat ((conv => whnf); first | refine brT ?_ | refine brF ?_)); conv => whnf)
  (refine ⟨fun h => ?_, fun h => ?_⟩ <;> rw [h])
  · ((repeat ((conv => whnf); first | refine brT ?_ | refine brF ?_)); conv => whnf); exact fin rfl
  rw [ltI_f] at h
  obtain ⟨p1, u1, s1⟩ := szFam_ok (by omega) (by omega) hf h
  ((repeat ((conv => whnf); first | refine brT ?_ | refine brF ?_)); conv => whnf)
  refine ⟨true, by kernel_rfl, ?_⟩
  ((repeat ((conv => whnf); first | refine brT ?_ | refine brF ?_)); conv => whnf)
  refine ⟨_, toFamily_spec ps us p1 u1, ?_⟩
  ((repeat ((conv => whnf); first | refine brT ?_ | refine brF ?_)); conv => whnf)
  refine ⟨_, hT, ?_⟩
  ((repeat ((conv => whnf); first | refine brT ?_ | refine brF ?_)); conv => whnf)
  refine ⟨_, hS, ?_⟩
  rw [show flatT (rowOw R) = true from flat_ints R]
  ((repeat ((conv => whnf); first | refine brT ?_ | refine brF ?_)); conv => whnf)
  refine ⟨[], _, _, _, _, toFamily_hm ps us p1 u1, rfl, rfl, rfl, trivial, ?_⟩
  ((repeat ((conv => whnf); first | refine brT ?_ | refine brF ?_)); conv => whnf)
  refine ⟨false, 0, 0, 0, [0, 1, 3, 4], (.one 2 (.one 5 (.one 6 .done))), by kernel_rfl, ?_⟩
  ((repeat ((conv => whnf); first | refine brT ?_ | refine brF ?_)); conv => whnf)
  apply Exists.intro; apply Exists.intro
  refine And.intro ?_ ?_
  · ((repeat ((conv => whnf); first | refine brT ?_ | refine brF ?_)); conv => whnf)
    refine ⟨_, hT, ?_⟩
    ((repeat ((conv => whnf); first | refine brT ?_ | refine brF ?_)); conv => whnf)
    refine ⟨_, _, _, _, hI, rfl, rfl, rfl, rfl, rfl, ⟨rfl, flats_ints _, trivial⟩, ?_⟩
    ((repeat ((conv => whnf); first | refine brT ?_ | refine brF ?_)); conv => whnf)
    refine Weak.idn ?_ ?_ rfl
    · ((repeat ((conv => whnf); refine ⟨rfl, ?_⟩)); trivial)
    · exact ⟨rfl, rfl, rfl, rfl, rfl, rfl, trivial⟩
  ((repeat ((conv => whnf); first | refine brT ?_ | refine brF ?_)); conv => whnf)
  refine ⟨rfl, ?_⟩
  ((repeat ((conv => whnf); first | refine brT ?_ | refine brF ?_)); conv => whnf)
  refine ⟨_, eqIntS_spec R R, ?_⟩
  rw [eqIntS_refl]
  ((repeat ((conv => whnf); first | refine brT ?_ | refine brF ?_)); conv => whnf)
  rw [show notB true = false by simp [notB]]
  ((repeat ((conv => whnf); first | refine brT ?_ | refine brF ?_)); conv => whnf)
  refine ⟨true, by kernel_rfl, ?_⟩
  ((repeat ((conv => whnf); first | refine brT ?_ | refine brF ?_)); conv => whnf)
  refine ⟨_, toFamily_spec ps us p1 u1, ?_⟩
  ((repeat ((conv => whnf); first | refine brT ?_ | refine brF ?_)); conv => whnf)
  refine ⟨rfl, ?_⟩
  ((repeat ((conv => whnf); first | refine brT ?_ | refine brF ?_)); conv => whnf)
  refine ⟨rfl, ?_⟩
  ((repeat ((conv => whnf); first | refine brT ?_ | refine brF ?_)); conv => whnf)
  refine ⟨_, eqFamily_spec ps ps us us, ?_⟩
  rw [eqFam_refl]
  ((repeat ((conv => whnf); first | refine brT ?_ | refine brF ?_)); conv => whnf)
  rw [show notB true = false by simp [notB]]
  ((repeat ((conv => whnf); first | refine brT ?_ | refine brF ?_)); conv => whnf)
  refine ⟨[2, 3], _, _, _, _, markFamily_hm ps us 1 (by omega), rfl, rfl, rfl, trivial, ?_⟩
  ((repeat ((conv => whnf); first | refine brT ?_ | refine brF ?_)); conv => whnf)
  rw [show ltI ((1 + 6 * ps.length + 4 * us.length : Nat) : Int) 0 = false by rw [ltI_f]; omega]
  ((repeat ((conv => whnf); first | refine brT ?_ | refine brF ?_)); conv => whnf)
  refine ⟨rfl, ?_⟩
  ((repeat ((conv => whnf); first | refine brT ?_ | refine brF ?_)); conv => whnf)
  refine ⟨_, eqIntS_spec R R, ?_⟩
  rw [eqIntS_refl]
  ((repeat ((conv => whnf); first | refine brT ?_ | refine brF ?_)); conv => whnf)
  rw [show notB true = false by simp [notB]]
  ((repeat ((conv => whnf); first | refine brT ?_ | refine brF ?_)); conv => whnf)
  refine ⟨[5], _, _, _, _, markIntS_spec R _ rfl 1 (by omega) (by omega), rfl, rfl, rfl, trivial, ?_⟩
  ((repeat ((conv => whnf); first | refine brT ?_ | refine brF ?_)); conv => whnf)
  refine ⟨by simp [marks_len], ?_⟩
  ((repeat ((conv => whnf); first | refine brT ?_ | refine brF ?_)); conv => whnf)
  refine ⟨_, heldIntS_spec 1 R.length (by omega) (by omega), ?_⟩
  ((repeat ((conv => whnf); first | refine brT ?_ | refine brF ?_)); conv => whnf)
  rw [show ltI (1 + (R.length : Int)) 0 = false by rw [ltI_f]; omega]
  ((repeat ((conv => whnf); first | refine brT ?_ | refine brF ?_)); conv => whnf)
  rw [show notB (eqI (1 + (R.length : Int)) (1 + (R.length : Int))) = false by simp [notB, eqI_refl]]
  ((repeat ((conv => whnf); first | refine brT ?_ | refine brF ?_)); conv => whnf)
  refine ⟨true, by kernel_rfl, ?_⟩
  ((repeat ((conv => whnf); first | refine brT ?_ | refine brF ?_)); conv => whnf)
  refine ⟨_, toFamily_spec ps us p1 u1, ?_⟩
  ((repeat ((conv => whnf); first | refine brT ?_ | refine brF ?_)); conv => whnf)
  refine ⟨_, hT, ?_⟩
  ((repeat ((conv => whnf); first | refine brT ?_ | refine brF ?_)); conv => whnf)
  refine ⟨_, hF, ?_⟩
  rw [show flatT (rowOw R) = true from flat_ints R]
  ((repeat ((conv => whnf); first | refine brT ?_ | refine brF ?_)); conv => whnf)
  refine ⟨_, eqIntS_spec R R, ?_⟩
  rw [eqIntS_refl]
  ((repeat ((conv => whnf); first | refine brT ?_ | refine brF ?_)); conv => whnf)
  rw [show notB true = false by simp [notB]]
  ((repeat ((conv => whnf); first | refine brT ?_ | refine brF ?_)); conv => whnf)
  refine ⟨by simp [marks_len], ?_⟩
  ((repeat ((conv => whnf); first | refine brT ?_ | refine brF ?_)); conv => whnf)
  refine ⟨_, heldIntS_spec 1 R.length (by omega) (by omega), ?_⟩
  ((repeat ((conv => whnf); first | refine brT ?_ | refine brF ?_)); conv => whnf)
  rw [show ltI (1 + (R.length : Int)) 0 = false by rw [ltI_f]; omega]
  ((repeat ((conv => whnf); first | refine brT ?_ | refine brF ?_)); conv => whnf)
  rw [show notB (eqI (1 + (R.length : Int)) (1 + (R.length : Int))) = false by simp [notB, eqI_refl]]
  ((repeat ((conv => whnf); first | refine brT ?_ | refine brF ?_)); conv => whnf)
  exact fin rfl
end Go.Proofs.Ytbiagkccgijdlaa

