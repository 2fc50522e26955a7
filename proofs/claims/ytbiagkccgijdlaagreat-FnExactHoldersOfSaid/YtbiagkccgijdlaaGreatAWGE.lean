/- Contracts of functions of the program and of its model, told over readings. -/
import Derived.Test.YtbiagkccgijdlaaGreatAWGD
import Derived.Test.YtbiagkccgijdlaaGreatAWGA
namespace Go.Proofs.YtbiagkccgijdlaaGreat
open Go.Lg Go.Pm
set_option maxHeartbeats 3200000
set_option maxRecDepth 10000
set_option linter.unusedVariables false
set_option linter.unusedSimpArgs false

/-! ### The model's way to the children in order -/
def ofTo (ps : List Per) (yo : Bool) (l : List Nat) (s : Int) (k : Nat) : List Nat := turnL yo ((l.take k).filter (sexOf ps s))
theorem ofTo_len (ps : List Per) (yo : Bool) (l : List Nat) (s : Int) (k : Nat) : (ofTo ps yo l s k).length ≤ l.length := by
  unfold ofTo
  rw [turnL_len]
  refine Nat.le_trans (List.length_filter_le _ _) ?_
  rw [List.length_take]; omega
theorem ofTo_no {ps : List Per} {yo : Bool} {l : List Nat} {s : Int} {k : Nat} (h : k < l.length) (e : sexOf ps s l[k] = false) : ofTo ps yo l s (k + 1) = ofTo ps yo l s k := by
  unfold ofTo
  rw [List.take_succ_eq_append_getElem h, List.filter_append]
  simp [e]
theorem ofTo_old {ps : List Per} {l : List Nat} {s : Int} {k : Nat} (h : k < l.length) (e : sexOf ps s l[k] = true) : ofTo ps false l s (k + 1) = ofTo ps false l s k ++ [l[k]] := by
  unfold ofTo turnL
  rw [List.take_succ_eq_append_getElem h, List.filter_append]
  simp [e]
theorem ofTo_new {ps : List Per} {l : List Nat} {s : Int} {k : Nat} (h : k < l.length) (e : sexOf ps s l[k] = true) : ofTo ps true l s (k + 1) = l[k] :: ofTo ps true l s k := by
  unfold ofTo turnL
  rw [List.take_succ_eq_append_getElem h, List.filter_append]
  simp [e]
theorem l10Of_h (ps : List Per) (us : List Uni) (x : Cus) (l : List Nat) (s : Int) (hb : l.length ≤ 1048576) (hL : ∀ q ∈ l, q < ps.length) :
    HSpec env.P 140 [famLV ps us, x.lv, natsSl l, .int .i64 s] [] (.hs 0 ((ofL ps x l s).map natLV).length) [.arr 3 1 ((ofL ps x l s).map natLV)] := by
  refine HSpec_of_code (E := env.x [] 0) env_ok.x (fn := Tryz.f140) Tryz.func140 rfl Tryz.call140 _ _ _ _ ?_
  have hN := nats_len l
  have hl' : l.length ≤ Go.maxLen := by unfold Go.maxLen; omega
  have hE : ofL ps x l s = ofTo ps x.young l s l.length := by unfold ofL ofTo; rw [List.take_length]
  rw [hE]
  obtain ⟨pr, yo, re⟩ := x
  unfold natsSl
  simp only
  ((repeat ((conv => whnf); first | refine brT ?_ | refine brF ?_)); conv => whnf)
  intro _
  rw [hN]
  ((repeat ((conv => whnf); first | refine brT ?_ | refine brF ?_)); conv => whnf)
  refine loop_ruleR (α := Nat) [.old 0, .old 1, .old 2] (fun k => [(15, .int .i64 (k : Int)), (12, .undef), (9, .hs 2 ((ofTo ps yo l s k).map natLV).length)]) (fun k => [.box (famLV ps us), .box (.st [.int .i64 pr, .bool yo, .bool re]), .arr 3 1 ((ofTo ps yo l s k).map natLV)]) (fun k => l.length - k) (fun k => k ≤ l.length) 0 (Nat.zero_le _) ?_ ?_
  · have e0 : ofTo ps yo l s 0 = [] := by unfold ofTo; cases yo <;> rfl
    refine ⟨?_, ⟨rfl, rfl, rfl, rfl, rfl, congrArg (fun l : List Nat => Blk.arr 3 1 (l.map natLV)) e0.symm, trivial⟩, rfl⟩
    have e1 : LV.hs 2 0 = LV.hs 2 ((ofTo ps yo l s 0).map natLV).length := by rw [e0]; rfl
    repeat ((conv => whnf); first | refine ⟨rfl, e1, ?_⟩ | refine ⟨rfl, rfl, ?_⟩)
    trivial
  intro k hk
  generalize hK : kk _ = KK
  have hol := ofTo_len ps yo l s k
  have hol1 := ofTo_len ps yo l s (k + 1)
  ((repeat ((conv => whnf); first | refine brT ?_ | refine brF ?_)); conv => whnf)
  (refine ⟨fun g1 => ?_, fun g1 => ?_⟩ <;> rw [g1])
  · have hlt : k < l.length := by rw [ltI_t] at g1; omega
    have e := step_i hlt hl'
    have hq : l[k] < ps.length := hL _ (List.getElem_mem hlt)
    have hg : (l.map natLV)[k]? = some (natLV l[k]) := by simp [hlt]
    have hgp : (ps.map Per.lv)[l[k]]? = some ps[l[k]].lv := by simp [hq]
    have hsx : sexD ps l[k] = ps[l[k]].sex := by simp [sexD, hq]
    have hsq : sexOf ps s l[k] = notB (notB (eqI s 0) && notB (eqI ps[l[k]].sex s)) := by unfold sexOf; rw [hsx]
    have n0 := ofTo_no (ps := ps) (yo := yo) (s := s) hlt
    have n1 := ofTo_old (ps := ps) (s := s) hlt
    have n2 := ofTo_new (ps := ps) (s := s) hlt
    generalize l[k] = q at hq hg hgp hsq n0 n1 n2
    generalize ps[q] = y at hgp hsq
    obtain ⟨nm, sx, fa, mo, bo, di⟩ := y
    simp only at hsq
    ((repeat ((conv => whnf); first | refine brT ?_ | refine brF ?_)); conv => whnf)
    refine ⟨k, _, rfl, hg, rfl, ?_⟩
    rw [show natLV q = .int .i64 (q : Int) from rfl]
    ((repeat ((conv => whnf); first | refine brT ?_ | refine brF ?_)); conv => whnf)
    cases g2 : eqI s 0
    · rw [show notB false = true by simp [notB]]
      ((repeat ((conv => whnf); first | refine brT ?_ | refine brF ?_)); conv => whnf)
      refine ⟨q, _, rfl, hgp, rfl, ?_⟩
      ((repeat ((conv => whnf); first | refine brT ?_ | refine brF ?_)); conv => whnf)
      cases g3 : eqI sx s
      · rw [show notB false = true by simp [notB]]
        ((repeat ((conv => whnf); first | refine brT ?_ | refine brF ?_)); conv => whnf)
        subst hK
        have e2 := n0 (by rw [hsq, g2, g3]; simp [notB])
        have e3 : LV.hs 2 ((ofTo ps yo l s k).map natLV).length = LV.hs 2 ((ofTo ps yo l s (k + 1)).map natLV).length := by rw [e2]
        refine round_endR [.old 0, .old 1, .old 2] (k + 1) hlt (by omega) ⟨?_, ⟨rfl, rfl, rfl, rfl, rfl, congrArg (fun l : List Nat => Blk.arr 3 1 (l.map natLV)) e2.symm, trivial⟩, rfl⟩
        repeat ((conv => whnf); first | refine ⟨rfl, e, ?_⟩ | refine ⟨rfl, e3, ?_⟩ | refine ⟨rfl, rfl, ?_⟩)
        trivial
      · rw [show notB true = false by simp [notB]]
        ((repeat ((conv => whnf); first | refine brT ?_ | refine brF ?_)); conv => whnf)
        have hq1 : sexOf ps s q = true := by rw [hsq, g2, g3]; simp [notB]
        cases yo
        · have e2 : (ofTo ps false l s k).map natLV ++ [LV.int .i64 (q : Int)] = (ofTo ps false l s (k + 1)).map natLV := by rw [n1 hq1, List.map_append]; rfl
          ((repeat ((conv => whnf); first | refine brT ?_ | refine brF ?_)); conv => whnf)
          refine ⟨rfl, rfl, ?_, ?_, ?_⟩
          · rw [e2, List.length_map]; unfold Go.maxLen; omega
          · rw [e2, List.length_map]; show (ofTo ps false l s (k + 1)).length * 8 ≤ _; omega
          rw [e2]
          ((repeat ((conv => whnf); first | refine brT ?_ | refine brF ?_)); conv => whnf)
          subst hK
          refine round_endR [.old 0, .old 1, .old 4] (k + 1) hlt (by omega) ⟨?_, ⟨rfl, rfl, rfl, rfl, rfl, rfl, trivial⟩, rfl⟩
          repeat ((conv => whnf); first | refine ⟨rfl, e, ?_⟩ | refine ⟨rfl, rfl, ?_⟩)
          trivial
        · have e2 : [LV.int .i64 (q : Int)] ++ (ofTo ps true l s k).map natLV = (ofTo ps true l s (k + 1)).map natLV := by rw [n2 hq1]; rfl
          ((repeat ((conv => whnf); first | refine brT ?_ | refine brF ?_)); conv => whnf)
          refine ⟨rfl, ?_⟩
          ((repeat ((conv => whnf); first | refine brT ?_ | refine brF ?_)); conv => whnf)
          refine ⟨rfl, ?_, ?_, ?_⟩
          · rw [e2, List.length_map]; unfold Go.maxLen; omega
          · rw [e2, List.length_map]; show (ofTo ps true l s (k + 1)).length * 8 ≤ _; omega
          rw [e2]
          ((repeat ((conv => whnf); first | refine brT ?_ | refine brF ?_)); conv => whnf)
          subst hK
          refine round_endR [.old 0, .old 1, .old 4] (k + 1) hlt (by omega) ⟨?_, ⟨rfl, rfl, rfl, rfl, rfl, rfl, trivial⟩, rfl⟩
          repeat ((conv => whnf); first | refine ⟨rfl, e, ?_⟩ | refine ⟨rfl, rfl, ?_⟩)
          trivial
    · rw [show notB true = false by simp [notB]]
      ((repeat ((conv => whnf); first | refine brT ?_ | refine brF ?_)); conv => whnf)
      have hq1 : sexOf ps s q = true := by rw [hsq, g2]; simp [notB]
      cases yo
      · have e2 : (ofTo ps false l s k).map natLV ++ [LV.int .i64 (q : Int)] = (ofTo ps false l s (k + 1)).map natLV := by rw [n1 hq1, List.map_append]; rfl
        ((repeat ((conv => whnf); first | refine brT ?_ | refine brF ?_)); conv => whnf)
        refine ⟨rfl, rfl, ?_, ?_, ?_⟩
        · rw [e2, List.length_map]; unfold Go.maxLen; omega
        · rw [e2, List.length_map]; show (ofTo ps false l s (k + 1)).length * 8 ≤ _; omega
        rw [e2]
        ((repeat ((conv => whnf); first | refine brT ?_ | refine brF ?_)); conv => whnf)
        subst hK
        refine round_endR [.old 0, .old 1, .old 4] (k + 1) hlt (by omega) ⟨?_, ⟨rfl, rfl, rfl, rfl, rfl, rfl, trivial⟩, rfl⟩
        repeat ((conv => whnf); first | refine ⟨rfl, e, ?_⟩ | refine ⟨rfl, rfl, ?_⟩)
        trivial
      · have e2 : [LV.int .i64 (q : Int)] ++ (ofTo ps true l s k).map natLV = (ofTo ps true l s (k + 1)).map natLV := by rw [n2 hq1]; rfl
        ((repeat ((conv => whnf); first | refine brT ?_ | refine brF ?_)); conv => whnf)
        refine ⟨rfl, ?_⟩
        ((repeat ((conv => whnf); first | refine brT ?_ | refine brF ?_)); conv => whnf)
        refine ⟨rfl, ?_, ?_, ?_⟩
        · rw [e2, List.length_map]; unfold Go.maxLen; omega
        · rw [e2, List.length_map]; show (ofTo ps true l s (k + 1)).length * 8 ≤ _; omega
        rw [e2]
        ((repeat ((conv => whnf); first | refine brT ?_ | refine brF ?_)); conv => whnf)
        subst hK
        refine round_endR [.old 0, .old 1, .old 4] (k + 1) hlt (by omega) ⟨?_, ⟨rfl, rfl, rfl, rfl, rfl, rfl, trivial⟩, rfl⟩
        repeat ((conv => whnf); first | refine ⟨rfl, e, ?_⟩ | refine ⟨rfl, rfl, ?_⟩)
        trivial
  have h4 : k = l.length := by rw [ltI_f] at g1; omega
  subst h4
  subst hK
  ((repeat ((conv => whnf); first | refine brT ?_ | refine brF ?_)); conv => whnf)
  exact ⟨[.hs 0 ((ofTo ps yo l s l.length).map natLV).length], rfl, rfl, .inr ⟨[.old 2], ⟨rfl, rfl, trivial⟩, ⟨rfl, rfl, trivial⟩, rfl⟩⟩
end Go.Proofs.YtbiagkccgijdlaaGreat


namespace Go.Proofs.YtbiagkccgijdlaaGreat
open Go.Lg Go.Pm
set_option maxHeartbeats 3200000
set_option maxRecDepth 10000
set_option linter.unusedVariables false
set_option linter.unusedSimpArgs false

theorem l10Children_h (ps : List Per) (us : List Uni) (x : Cus) (p : Int) (hl : ps.length ≤ 40) :
    HSpec env.P 114 [famLV ps us, x.lv, .int .i64 p] [] (.hs 0 ((chlL ps x p).map natLV).length) [.arr 3 1 ((chlL ps x p).map natLV)] := by
  refine HSpec_of_code (E := env.x [139, 140] 0) env_ok.x (fn := Tryz.f114) Tryz.func114 rfl Tryz.call114 _ _ _ _ ?_
  have hC := l1Children_h ps us p hl
  have hCl := eldL_len ps (chQ ps p) ps.length
  have hCm : ∀ q ∈ eldL ps (chQ ps p) ps.length, q < ps.length := fun q hq => (eldL_mem.1 hq).1
  have hB : ∀ s, (ofL ps x (eldL ps (chQ ps p) ps.length) s).length ≤ 40 := fun s => by
    unfold ofL; rw [turnL_len]
    exact Nat.le_trans (List.length_filter_le _ _) (by omega)
  unfold chlL
  have hO := fun s => l10Of_h ps us x (eldL ps (chQ ps p) ps.length) s (by omega) hCm
  have g : ∀ L : List Nat, L = eldL ps (chQ ps p) ps.length → L = eldL ps (chQ ps p) ps.length := fun _ h => h
  generalize eldL ps (chQ ps p) ps.length = L at hC hCl hCm hB hO ⊢
  clear g
  have hE : ∀ s, ofL ps x L s = ofL ps x L s := fun _ => rfl
  generalize hF : (fun s => ofL ps x L s) = F
  have hF' : ∀ s, ofL ps x L s = F s := fun s => by rw [← hF]
  simp only [hF'] at hO hB ⊢
  clear hF hF' hE
  obtain ⟨pr, yo, re⟩ := x
  unfold natsSl at hO
  simp only at hO ⊢
  ((repeat ((conv => whnf); first | refine brT ?_ | refine brF ?_)); conv => whnf)
  refine ⟨[], _, _, _, _, hC, rfl, rfl, rfl, trivial, ?_⟩
  ((repeat ((conv => whnf); first | refine brT ?_ | refine brF ?_)); conv => whnf)
  (refine ⟨fun g1 => ?_, fun g1 => ?_⟩ <;> rw [g1])
  · ((repeat ((conv => whnf); first | refine brT ?_ | refine brF ?_)); conv => whnf)
    refine ⟨false, 0, 0, 2, [0, 1, 2, 4, 5, 6], (.one 3 (.one 7 (.one 8 (.one 9 .done)))), by kernel_rfl, by kernel_rfl, ?_⟩
    ((repeat ((conv => whnf); first | refine brT ?_ | refine brF ?_)); conv => whnf)
    apply Exists.intro
    apply Exists.intro
    refine And.intro ?_ ?_
    · refine ⟨_, _, _, _, hO 1, rfl, rfl, rfl, rfl, ⟨rfl, flats_nats _, trivial⟩, ?_⟩
      ((repeat ((conv => whnf); first | refine brT ?_ | refine brF ?_)); conv => whnf)
      refine ⟨_, _, _, _, hO 2, rfl, rfl, rfl, rfl, ⟨rfl, flats_nats _, trivial⟩, ?_⟩
      ((repeat ((conv => whnf); first | refine brT ?_ | refine brF ?_)); conv => whnf)
      refine Weak.idn ?_ ?_ rfl
      · ((repeat ((conv => whnf); refine ⟨rfl, ?_⟩)); trivial)
      · exact ⟨rfl, rfl, rfl, rfl, rfl, trivial⟩
    ((repeat ((conv => whnf); first | refine brT ?_ | refine brF ?_)); conv => whnf)
    refine ⟨rfl, ?_⟩
    ((repeat ((conv => whnf); first | refine brT ?_ | refine brF ?_)); conv => whnf)
    have e2 : (F 1).map natLV ++ (F 2).map natLV = (F 1 ++ F 2).map natLV := by rw [List.map_append]
    have hb1 := hB 1
    have hb2 := hB 2
    refine ⟨rfl, ?_, ?_, ?_⟩
    · rw [e2, List.length_map, List.length_append]; unfold Go.maxLen; omega
    · rw [e2, List.length_map, List.length_append]; show ((F 1).length + (F 2).length) * 8 ≤ _; omega
    rw [e2]
    ((repeat ((conv => whnf); first | refine brT ?_ | refine brF ?_)); conv => whnf)
    exact ⟨[.hs 0 ((F 1 ++ F 2).map natLV).length], rfl, rfl, .inr ⟨[.old 5], ⟨rfl, rfl, trivial⟩, ⟨rfl, rfl, trivial⟩, rfl⟩⟩
  · ((repeat ((conv => whnf); first | refine brT ?_ | refine brF ?_)); conv => whnf)
    (refine ⟨fun g2 => ?_, fun g2 => ?_⟩ <;> rw [g2])
    · ((repeat ((conv => whnf); first | refine brT ?_ | refine brF ?_)); conv => whnf)
      refine ⟨false, 0, 0, 2, [0, 1, 2, 4, 5, 6], (.one 3 (.one 7 (.one 8 (.one 9 .done)))), by kernel_rfl, by kernel_rfl, ?_⟩
      ((repeat ((conv => whnf); first | refine brT ?_ | refine brF ?_)); conv => whnf)
      apply Exists.intro
      apply Exists.intro
      refine And.intro ?_ ?_
      · refine ⟨_, _, _, _, hO 2, rfl, rfl, rfl, rfl, ⟨rfl, flats_nats _, trivial⟩, ?_⟩
        ((repeat ((conv => whnf); first | refine brT ?_ | refine brF ?_)); conv => whnf)
        refine ⟨_, _, _, _, hO 1, rfl, rfl, rfl, rfl, ⟨rfl, flats_nats _, trivial⟩, ?_⟩
        ((repeat ((conv => whnf); first | refine brT ?_ | refine brF ?_)); conv => whnf)
        refine Weak.idn ?_ ?_ rfl
        · ((repeat ((conv => whnf); refine ⟨rfl, ?_⟩)); trivial)
        · exact ⟨rfl, rfl, rfl, rfl, rfl, trivial⟩
      ((repeat ((conv => whnf); first | refine brT ?_ | refine brF ?_)); conv => whnf)
      refine ⟨rfl, ?_⟩
      ((repeat ((conv => whnf); first | refine brT ?_ | refine brF ?_)); conv => whnf)
      have e2 : (F 2).map natLV ++ (F 1).map natLV = (F 2 ++ F 1).map natLV := by rw [List.map_append]
      have hb1 := hB 2
      have hb2 := hB 1
      refine ⟨rfl, ?_, ?_, ?_⟩
      · rw [e2, List.length_map, List.length_append]; unfold Go.maxLen; omega
      · rw [e2, List.length_map, List.length_append]; show ((F 2).length + (F 1).length) * 8 ≤ _; omega
      rw [e2]
      ((repeat ((conv => whnf); first | refine brT ?_ | refine brF ?_)); conv => whnf)
      exact ⟨[.hs 0 ((F 2 ++ F 1).map natLV).length], rfl, rfl, .inr ⟨[.old 5], ⟨rfl, rfl, trivial⟩, ⟨rfl, rfl, trivial⟩, rfl⟩⟩
    · ((repeat ((conv => whnf); first | refine brT ?_ | refine brF ?_)); conv => whnf)
      (refine ⟨fun g3 => ?_, fun g3 => ?_⟩ <;> rw [g3])
      · ((repeat ((conv => whnf); first | refine brT ?_ | refine brF ?_)); conv => whnf)
        refine ⟨[], _, _, _, _, hO 1, rfl, ?_⟩
        ((repeat ((conv => whnf); first | refine brT ?_ | refine brF ?_)); conv => whnf)
        refine ⟨rfl, ?_⟩
        ((repeat ((conv => whnf); first | refine brT ?_ | refine brF ?_)); conv => whnf)
        refine ⟨rfl, rfl, ⟨rfl, flats_nats _, trivial⟩, ?_⟩
        ((repeat ((conv => whnf); first | refine brT ?_ | refine brF ?_)); conv => whnf)
        exact ⟨[.hs 0 ((F 1).map natLV).length], rfl, rfl, .inr ⟨[.old 3], ⟨rfl, rfl, trivial⟩, ⟨rfl, rfl, trivial⟩, rfl⟩⟩
      · ((repeat ((conv => whnf); first | refine brT ?_ | refine brF ?_)); conv => whnf)
        (refine ⟨fun g4 => ?_, fun g4 => ?_⟩ <;> rw [g4])
        · ((repeat ((conv => whnf); first | refine brT ?_ | refine brF ?_)); conv => whnf)
          refine ⟨[], _, _, _, _, hO 2, rfl, ?_⟩
          ((repeat ((conv => whnf); first | refine brT ?_ | refine brF ?_)); conv => whnf)
          refine ⟨rfl, ?_⟩
          ((repeat ((conv => whnf); first | refine brT ?_ | refine brF ?_)); conv => whnf)
          refine ⟨rfl, rfl, ⟨rfl, flats_nats _, trivial⟩, ?_⟩
          ((repeat ((conv => whnf); first | refine brT ?_ | refine brF ?_)); conv => whnf)
          exact ⟨[.hs 0 ((F 2).map natLV).length], rfl, rfl, .inr ⟨[.old 3], ⟨rfl, rfl, trivial⟩, ⟨rfl, rfl, trivial⟩, rfl⟩⟩
        · ((repeat ((conv => whnf); first | refine brT ?_ | refine brF ?_)); conv => whnf)
          refine ⟨[], _, _, _, _, hO 0, rfl, ?_⟩
          ((repeat ((conv => whnf); first | refine brT ?_ | refine brF ?_)); conv => whnf)
          refine ⟨rfl, ?_⟩
          ((repeat ((conv => whnf); first | refine brT ?_ | refine brF ?_)); conv => whnf)
          refine ⟨rfl, rfl, ⟨rfl, flats_nats _, trivial⟩, ?_⟩
          ((repeat ((conv => whnf); first | refine brT ?_ | refine brF ?_)); conv => whnf)
          exact ⟨[.hs 0 ((F 0).map natLV).length], rfl, rfl, .inr ⟨[.old 3], ⟨rfl, rfl, trivial⟩, ⟨rfl, rfl, trivial⟩, rfl⟩⟩
end Go.Proofs.YtbiagkccgijdlaaGreat


namespace Go.Proofs.YtbiagkccgijdlaaGreat
open Go.Lg Go.Pm
set_option maxHeartbeats 3200000
set_option maxRecDepth 10000
set_option linter.unusedVariables false
set_option linter.unusedSimpArgs false

end Go.Proofs.YtbiagkccgijdlaaGreat

namespace Go.Proofs.YtbiagkccgijdlaaGreat
open Go.Lg Go.Pm
set_option maxHeartbeats 6400000
set_option maxRecDepth 10000
set_option linter.unusedVariables false
set_option linter.unusedSimpArgs false

/-! ### The heirs below, as the program finds them -/
def sucLV (ps : List Per) (us : List Uni) (x : Cus) (y : Int) (S : (Nat → Bool) × List Nat) : LV := .st [famLV ps us, x.lv, .int .i64 y, uLV (bitsP ps.length S.1), .own 3 1 (S.2.map natLV)]
theorem alive_impl (q : Per) (y : Int) : FSpec env.P 78 [q.lv, .int .i64 y] (.bool (aliveB q y)) := by
  obtain ⟨nm, sx, fa, mo, bo, di⟩ := q
  refine FSpec_of_code env_ok (fn := Tryz.f78) Tryz.func78 rfl Tryz.call78 _ _ ?_
  ((repeat' (((repeat ((conv => whnf); first | refine brT ?_ | refine brF ?_)); conv => whnf); first | (refine And.intro ?_ ?_ <;> (intro h; rw [h]; revert h; intro _)) | (refine Exists.intro true (And.intro (a := drawB _ _ = true) (by kernel_rfl) ?_)) | (refine Exists.intro _ (And.intro () ?_)))); all_goals ((repeat ((conv => whnf); first | refine brT ?_ | refine brF ?_)); conv => whnf))
  all_goals (refine fin ?_; simp_all [aliveB])
theorem alive_spec (ps : List Per) (us : List Uni) (i : Nat) (y : Int) (hi : i < ps.length) : FSpec env.P 115 [famLV ps us, .int .i64 (i : Int), .int .i64 y] (.bool (alv ps y i)) := by
  have hg : (ps.map Per.lv)[i]? = some ps[i].lv := by simp [hi]
  have ha : alv ps y i = aliveB ps[i] y := by simp [alv, hi]
  rw [ha]
  generalize ps[i] = q at hg
  obtain ⟨nm, sx, fa, mo, bo, di⟩ := q
  refine FSpec_of_code env_ok (fn := Tryz.f115) Tryz.func115 rfl Tryz.call115 _ _ ?_
  ((repeat ((conv => whnf); first | refine brT ?_ | refine brF ?_)); conv => whnf)
  refine ⟨i, _, rfl, hg, rfl, ?_⟩
  ((repeat' (((repeat ((conv => whnf); first | refine brT ?_ | refine brF ?_)); conv => whnf); first | (refine And.intro ?_ ?_ <;> (intro h; rw [h]; revert h; intro _)) | (refine Exists.intro true (And.intro (a := drawB _ _ = true) (by kernel_rfl) ?_)) | (refine Exists.intro _ (And.intro () ?_)))); all_goals ((repeat ((conv => whnf); first | refine brT ?_ | refine brF ?_)); conv => whnf))
  all_goals (refine fin ?_; simp_all [aliveB])
theorem has_spec (n : Nat) (M : Nat → Bool) (i : Nat) (hi : i < n) (hn : n ≤ 40) : FSpec env.P 79 [uLV (bitsP n M), .int .i64 (i : Int)] (.bool (M i)) := by
  refine FSpec_of_code env_ok (fn := Tryz.f79) Tryz.func79 rfl Tryz.call79 _ _ ?_
  have h := has_bits (s := bitsP n M) (b := (i : Int)) (bitsP_64 M (by omega)) (by omega) (by omega)
  rw [bitsP_has hi] at h
  rw [← h]
  unfold uLV
  ((repeat ((conv => whnf); first | refine brT ?_ | refine brF ?_)); conv => whnf)
  refine ⟨by omega, ?_⟩
  ((repeat ((conv => whnf); first | refine brT ?_ | refine brF ?_)); conv => whnf)
  exact fin rfl
theorem add_h (ps : List Per) (us : List Uni) (x : Cus) (y : Int) (S : (Nat → Bool) × List Nat) (c : Nat) (hc : c < ps.length) (hl : ps.length ≤ 40) :
    HSpec env.P 76 [.hp 0 1 [0, 3], .int .i64 (c : Int)] [.tree 99 8 [sucLV ps us x y S]] (.tup []) [.tree 99 8 [sucLV ps us x y (insP S.1 c, S.2)]] := by
  refine HSpec_of_code (E := env.x [] 1) env_ok.x (fn := Tryz.f76) Tryz.func76 rfl Tryz.call76 _ _ _ _ ?_
  have hb : Go.Lg.orI .u64 (bitsP ps.length S.1 : Int) (shlI .u64 1 (c : Int)) = (bitsP ps.length (insP S.1 c) : Int) := by
    rw [shlI_one (by omega) (by omega), orI_nat (bitsP_64 _ (by omega)) (two_lt (by omega))]
    rw [show ((c : Int)).toNat = c from rfl, bitsP_add hc]
    rfl
  unfold sucLV uLV
  ((repeat ((conv => whnf); first | refine brT ?_ | refine brF ?_)); conv => whnf)
  refine ⟨false, 6, by kernel_rfl, ?_⟩
  ((repeat ((conv => whnf); first | refine brT ?_ | refine brF ?_)); conv => whnf)
  refine ⟨rfl, _, _, rfl, rfl, ?_⟩
  ((repeat ((conv => whnf); first | refine brT ?_ | refine brF ?_)); conv => whnf)
  refine ⟨rfl, rfl, ?_⟩
  ((repeat ((conv => whnf); first | refine brT ?_ | refine brF ?_)); conv => whnf)
  refine ⟨by omega, ?_⟩
  ((repeat ((conv => whnf); first | refine brT ?_ | refine brF ?_)); conv => whnf)
  rw [hb]
  ((repeat ((conv => whnf); first | refine brT ?_ | refine brF ?_)); conv => whnf)
  refine ⟨rfl, rfl, _, _, _, rfl, rfl, rfl, rfl, ?_⟩
  ((repeat ((conv => whnf); first | refine brT ?_ | refine brF ?_)); conv => whnf)
  exact ⟨[], rfl, rfl, .inr ⟨[.old 0], trivial, ⟨rfl, rfl, trivial⟩, rfl⟩⟩
theorem stp_in {ps : List Per} {x : Cus} {y : Int} {I : Nat → Bool} {p c : Nat} {M : Nat → Bool} {out out' : List Nat} (hpc : p < c) (hc : c < ps.length) (ok : Ok ps I (M, out)) (hS : ∀ m, M m = true → p < m → clo ps x y I out m) (hM : M c = false)
    (ho : out' = out ∨ out' = out ++ [c]) : Ok ps I (insP M c, out') ∧ ∀ m, insP M c m = true → c < m → clo ps x y I out' m := by
  have hO : c ∉ out := fun e => by have := ok.o c e; simp only at this; rw [hM] at this; cases this
  have hsub : ∀ q ∈ out', q ∈ out ∨ q = c := fun q hq => by
    rcases ho with rfl | rfl
    · exact .inl hq
    · rcases List.mem_append.1 hq with h | h
      · exact .inl h
      · simp at h; exact .inr h
  refine ⟨⟨fun q hq => ?_, fun q hq => ?_, ?_, fun q hq => ?_⟩, fun m hm hcm => ?_⟩
  · simp only [insP]; split
    · rfl
    · exact ok.i q hq
  · simp only [insP]; split
    · rfl
    · rename_i e; rcases hsub q hq with h | h
      · exact ok.o q h
      · exact absurd h e
  · rcases ho with rfl | rfl
    · exact ok.nd
    · rw [List.nodup_append]
      refine ⟨ok.nd, by simp, fun a ha b hb => ?_⟩
      simp at hb; subst hb
      intro e2; subst e2
      exact hO ha
  · rcases hsub q hq with h | h
    · exact ok.lt q h
    · subst h; exact hc
  · simp only [insP] at hm
    rw [if_neg (by omega)] at hm
    have := hS m hm (by omega)
    rcases ho with rfl | rfl
    · exact this
    · intro q hq
      rcases this q hq with h | h
      · exact .inl h
      · exact .inr (List.mem_append_left _ h)
theorem addBelow_h {ps : List Per} {us : List Uni} (hf : famOk ps us = true) (x : Cus) (y : Int) (I : Nat → Bool) : ∀ (d p : Nat), ps.length ≤ p + d → p < ps.length → ∀ S : (Nat → Bool) × List Nat, Ok ps I S → (∀ m, S.1 m = true → p < m → clo ps x y I S.2 m) →
    HSpec env.P 56 [.hp 0 1 [0], .int .i64 (p : Int)] [.tree 99 8 [sucLV ps us x y S]] (.tup []) [.tree 99 8 [sucLV ps us x y (addI ps x y d p S)]]
  | 0, p, h, hp, S, ok, hc => by omega
  | d + 1, p, h, hp, S, ok, hc => by
    refine HSpec_of_code (E := env.x [56, 76] 1) env_ok.x (fn := Tryz.f56) Tryz.func56 rfl Tryz.call56 _ _ _ _ ?_
    have hO : FSpec env.P 77 [famLV ps us, x.lv, .int .i64 (p : Int)] (.own 3 1 ((ordL ps x (p : Int)).map natLV)) := FSpec_of_HSpec (ordered_h ps us x (p : Int) (fam_40 hf)) (by simp [exW])
    unfold sucLV famLV Cus.lv uLV
    unfold famLV Cus.lv at hO
    ((repeat ((conv => whnf); first | refine brT ?_ | refine brF ?_)); conv => whnf)
    refine ⟨true, by kernel_rfl, ?_⟩
    ((repeat ((conv => whnf); first | refine brT ?_ | refine brF ?_)); conv => whnf)
    refine ⟨rfl, by simp, _, rfl, rfl, by simp, ?_⟩
    ((repeat ((conv => whnf); first | refine brT ?_ | refine brF ?_)); conv => whnf)
    refine ⟨rfl, by simp, _, rfl, rfl, rfl, ?_⟩
    ((repeat ((conv => whnf); first | refine brT ?_ | refine brF ?_)); conv => whnf)
    refine ⟨rfl, by simp, _, rfl, rfl, by simp, ?_⟩
    ((repeat ((conv => whnf); first | refine brT ?_ | refine brF ?_)); conv => whnf)
    refine ⟨rfl, by simp, _, rfl, rfl, rfl, ?_⟩
    ((repeat ((conv => whnf); first | refine brT ?_ | refine brF ?_)); conv => whnf)
    refine ⟨_, hO, ?_⟩
    have hLm : ∀ c ∈ ordL ps x (p : Int), p < c ∧ c < ps.length := fun c hc => ⟨(ordL_mem (fam_pi hf) hc).2.1, (ordL_mem (fam_pi hf) hc).1⟩
    have hLl := ordL_len ps x (p : Int)
    have h40 := fam_40 hf
    have hRes : addI ps x y (d + 1) p S = (ordL ps x (p : Int)).foldl (stpI ps x y (addI ps x y d)) S := rfl
    rw [hRes]
    clear hRes hO
    generalize ordL ps x (p : Int) = L at hLm hLl
    have hN := nats_len L
    ((repeat ((conv => whnf); first | refine brT ?_ | refine brF ?_)); conv => whnf)
    intro _
    rw [hN]
    ((repeat ((conv => whnf); first | refine brT ?_ | refine brF ?_)); conv => whnf)
    refine loop_ruleR (α := Nat) [.old 0] (fun k => [(18, .int .i64 (k : Int))]) (fun k => [.tree 99 8 [sucLV ps us x y ((L.take k).foldl (stpI ps x y (addI ps x y d)) S)]]) (fun k => L.length - k)
      (fun k => k ≤ L.length ∧ Ok ps I ((L.take k).foldl (stpI ps x y (addI ps x y d)) S) ∧ ∀ m, ((L.take k).foldl (stpI ps x y (addI ps x y d)) S).1 m = true → p < m → clo ps x y I ((L.take k).foldl (stpI ps x y (addI ps x y d)) S).2 m) 0 ⟨Nat.zero_le _, ok, hc⟩ ?_ ?_
    · refine ⟨?_, ⟨rfl, rfl, trivial⟩, rfl⟩
      ((repeat ((conv => whnf); refine ⟨rfl, rfl, ?_⟩)); trivial)
    rintro k ⟨hk, okk, hck⟩
    generalize hK : kk _ = KK
    ((repeat ((conv => whnf); first | refine brT ?_ | refine brF ?_)); conv => whnf)
    (refine ⟨fun g1 => ?_, fun g1 => ?_⟩ <;> rw [g1])
    · have hlt : k < L.length := by rw [ltI_t] at g1; omega
      have e := step_i hlt (by unfold Go.maxLen; omega)
      obtain ⟨hpc, hcn⟩ := hLm L[k] (List.getElem_mem hlt)
      have hg : (L.map natLV)[k]? = some (.int .i64 (L[k] : Int)) := by rw [List.getElem?_map, List.getElem?_eq_getElem hlt]; rfl
      have hgp : (ps.map Per.lv)[L[k]]? = some ps[L[k]].lv := by simp [hcn]
      have hst : (L.take (k + 1)).foldl (stpI ps x y (addI ps x y d)) S = stpI ps x y (addI ps x y d) ((L.take k).foldl (stpI ps x y (addI ps x y d)) S) L[k] := by
        rw [List.take_succ_eq_append_getElem hlt, List.foldl_append]; rfl
      have hal : alv ps y L[k] = aliveB ps[L[k]] y := by simp [alv, hcn]
      generalize L[k] = c at hpc hcn hg hgp hst hal
      have hW := stpI_ok (rec := addI ps x y d) (x := x) (y := y) hpc hcn (fun S' ok' hS' => addI_ok (fam_pi hf) x y I d c (by omega) S' ok' hS') okk hck
      have hfin : ∀ Q, Q = stpI ps x y (addI ps x y d) ((L.take k).foldl (stpI ps x y (addI ps x y d)) S) c → Q = (L.take (k + 1)).foldl (stpI ps x y (addI ps x y d)) S := fun Q h => by rw [h, hst]
      have hIn : k + 1 ≤ L.length ∧ Ok ps I ((L.take (k + 1)).foldl (stpI ps x y (addI ps x y d)) S) ∧ ∀ m, ((L.take (k + 1)).foldl (stpI ps x y (addI ps x y d)) S).1 m = true → p < m → clo ps x y I ((L.take (k + 1)).foldl (stpI ps x y (addI ps x y d)) S).2 m := by
        rw [hst]; exact ⟨hlt, hW.ok, hW.cl⟩
      have hai := alive_impl ps[c] y
      generalize ps[c] = q at hgp hal hai
      obtain ⟨nm, sx, fa, mo, bo, di⟩ := q
      unfold sucLV famLV Cus.lv uLV
      generalize hS : (L.take k).foldl (stpI ps x y (addI ps x y d)) S = Sk at okk hck hW hst hfin
      obtain ⟨M, out⟩ := Sk
      ((repeat ((conv => whnf); first | refine brT ?_ | refine brF ?_)); conv => whnf)
      refine ⟨k, _, rfl, hg, rfl, ?_⟩
      ((repeat ((conv => whnf); first | refine brT ?_ | refine brF ?_)); conv => whnf)
      refine ⟨true, by kernel_rfl, ?_⟩
      ((repeat ((conv => whnf); first | refine brT ?_ | refine brF ?_)); conv => whnf)
      refine ⟨rfl, by simp, _, rfl, rfl, by simp, ?_⟩
      ((repeat ((conv => whnf); first | refine brT ?_ | refine brF ?_)); conv => whnf)
      refine ⟨rfl, by simp, _, rfl, rfl, by simp, ?_⟩
      ((repeat ((conv => whnf); first | refine brT ?_ | refine brF ?_)); conv => whnf)
      refine ⟨rfl, by simp, _, rfl, rfl, rfl, ?_⟩
      ((repeat ((conv => whnf); first | refine brT ?_ | refine brF ?_)); conv => whnf)
      refine ⟨c, _, rfl, hgp, rfl, ?_⟩
      ((repeat ((conv => whnf); first | refine brT ?_ | refine brF ?_)); conv => whnf)
      refine ⟨rfl, by simp, _, rfl, rfl, by simp, ?_⟩
      ((repeat ((conv => whnf); first | refine brT ?_ | refine brF ?_)); conv => whnf)
      refine ⟨rfl, by simp, _, rfl, rfl, rfl, ?_⟩
      ((repeat ((conv => whnf); first | refine brT ?_ | refine brF ?_)); conv => whnf)
      refine ⟨_, hai, ?_⟩
      ((repeat ((conv => whnf); first | refine brT ?_ | refine brF ?_)); conv => whnf)
      refine ⟨rfl, by simp, _, rfl, rfl, by simp, ?_⟩
      ((repeat ((conv => whnf); first | refine brT ?_ | refine brF ?_)); conv => whnf)
      refine ⟨rfl, _, _, rfl, rfl, ?_⟩
      ((repeat ((conv => whnf); first | refine brT ?_ | refine brF ?_)); conv => whnf)
      refine ⟨rfl, rfl, ?_⟩
      ((repeat ((conv => whnf); first | refine brT ?_ | refine brF ?_)); conv => whnf)
      have hhas := has_spec ps.length M c hcn h40
      unfold uLV at hhas
      refine ⟨_, hhas, ?_⟩
      ((repeat ((conv => whnf); first | refine brT ?_ | refine brF ?_)); conv => whnf)
      have skip : (M c || (notB (alv ps y c) && notB x.repr)) = true → stpI ps x y (addI ps x y d) (M, out) c = (M, out) := fun h => by
        unfold stpI; simp only [h]
      have go1 : (M c || (notB (alv ps y c) && notB x.repr)) = false → stpI ps x y (addI ps x y d) (M, out) c = addI ps x y d c (insP M c, match alv ps y c with | true => out ++ [c] | false => out) := fun h => by
        unfold stpI; simp only [h]; rfl
      rw [hal] at skip go1
      generalize aliveB ⟨nm, sx, fa, mo, bo, di⟩ y = A at skip go1 hal ⊢
      cases hM : M c
      · cases A
        · ((repeat ((conv => whnf); first | refine brT ?_ | refine brF ?_)); conv => whnf)
          rw [show notB false = true by simp [notB]]
          ((repeat ((conv => whnf); first | refine brT ?_ | refine brF ?_)); conv => whnf)
          refine ⟨rfl, by simp, _, rfl, rfl, by simp, ?_⟩
          ((repeat ((conv => whnf); first | refine brT ?_ | refine brF ?_)); conv => whnf)
          refine ⟨rfl, by simp, _, rfl, rfl, by simp, ?_⟩
          ((repeat ((conv => whnf); first | refine brT ?_ | refine brF ?_)); conv => whnf)
          refine ⟨rfl, _, _, rfl, rfl, ?_⟩
          ((repeat ((conv => whnf); first | refine brT ?_ | refine brF ?_)); conv => whnf)
          refine ⟨rfl, rfl, ?_⟩
          ((repeat ((conv => whnf); first | refine brT ?_ | refine brF ?_)); conv => whnf)
          (refine ⟨fun g5 => ?_, fun g5 => ?_⟩ <;> rw [g5])
          · have e5 := hfin (M, out) (by rw [skip (by rw [hM, g5]; simp [notB])])
            ((repeat ((conv => whnf); first | refine brT ?_ | refine brF ?_)); conv => whnf)
            subst hK
            refine round_endR [.old 0] (k + 1) hIn (by omega) ⟨?_, ⟨rfl, congrArg (fun Q => Blk.tree 99 8 [sucLV ps us x y Q]) e5, trivial⟩, rfl⟩
            ((repeat ((conv => whnf); first | refine ⟨rfl, e, ?_⟩ | refine ⟨rfl, rfl, ?_⟩)); trivial)
          · have e5 := hfin _ (go1 (by rw [hM, g5]; simp [notB])).symm
            have hIn2 := stp_in hpc hcn okk hck hM (.inl rfl)
            have hIH := addBelow_h hf x y I d c (by omega) hcn (insP M c, out) hIn2.1 hIn2.2
            have hAd := add_h ps us x y (M, out) c hcn h40
            unfold sucLV famLV Cus.lv uLV at hAd
            ((repeat ((conv => whnf); first | refine brT ?_ | refine brF ?_)); conv => whnf)
            refine ⟨rfl, by simp, _, rfl, rfl, by simp, ?_⟩
            ((repeat ((conv => whnf); first | refine brT ?_ | refine brF ?_)); conv => whnf)
            refine ⟨[0], _, _, _, _, hAd, rfl, rfl, rfl, trivial, ?_⟩
            ((repeat ((conv => whnf); first | refine brT ?_ | refine brF ?_)); conv => whnf)
            unfold sucLV famLV Cus.lv uLV at hIH
            refine ⟨[0], _, _, _, _, hIH, rfl, rfl, rfl, trivial, ?_⟩
            ((repeat ((conv => whnf); first | refine brT ?_ | refine brF ?_)); conv => whnf)
            subst hK
            refine round_endR [.old 0] (k + 1) hIn (by omega) ⟨?_, ⟨rfl, congrArg (fun Q => Blk.tree 99 8 [sucLV ps us x y Q]) e5, trivial⟩, rfl⟩
            ((repeat ((conv => whnf); first | refine ⟨rfl, e, ?_⟩ | refine ⟨rfl, rfl, ?_⟩)); trivial)
        · have e5 := hfin _ (go1 (by rw [hM]; simp [notB])).symm
          have hIn2 := stp_in hpc hcn okk hck hM (.inr rfl)
          have hIH := addBelow_h hf x y I d c (by omega) hcn (insP M c, out ++ [c]) hIn2.1 hIn2.2
          have hAd := add_h ps us x y (M, out) c hcn h40
          have hol : (out ++ [c]).length ≤ ps.length := hIn2.1.len
          unfold sucLV famLV Cus.lv uLV at hAd
          ((repeat ((conv => whnf); first | refine brT ?_ | refine brF ?_)); conv => whnf)
          rw [show notB true = false by simp [notB]]
          ((repeat ((conv => whnf); first | refine brT ?_ | refine brF ?_)); conv => whnf)
          refine ⟨rfl, by simp, _, rfl, rfl, by simp, ?_⟩
          ((repeat ((conv => whnf); first | refine brT ?_ | refine brF ?_)); conv => whnf)
          refine ⟨[0], _, _, _, _, hAd, rfl, rfl, rfl, trivial, ?_⟩
          ((repeat ((conv => whnf); first | refine brT ?_ | refine brF ?_)); conv => whnf)
          refine ⟨rfl, by simp, _, rfl, rfl, by simp, ?_⟩
          ((repeat ((conv => whnf); first | refine brT ?_ | refine brF ?_)); conv => whnf)
          refine ⟨rfl, _, _, rfl, rfl, ?_⟩
          ((repeat ((conv => whnf); first | refine brT ?_ | refine brF ?_)); conv => whnf)
          refine ⟨rfl, ?_⟩
          have e6 : out.map natLV ++ [LV.int .i64 (c : Int)] = (out ++ [c]).map natLV := by rw [List.map_append]; rfl
          ((repeat ((conv => whnf); first | refine brT ?_ | refine brF ?_)); conv => whnf)
          refine ⟨rfl, ?_, ?_, ?_⟩
          · rw [e6, List.length_map]; unfold Go.maxLen; omega
          · rw [e6, List.length_map]; show (out ++ [c]).length * 8 ≤ _; omega
          rw [e6]
          ((repeat ((conv => whnf); first | refine brT ?_ | refine brF ?_)); conv => whnf)
          refine ⟨rfl, by simp, _, rfl, rfl, by simp, ?_⟩
          ((repeat ((conv => whnf); first | refine brT ?_ | refine brF ?_)); conv => whnf)
          refine ⟨rfl, ?_⟩
          ((repeat ((conv => whnf); first | refine brT ?_ | refine brF ?_)); conv => whnf)
          refine ⟨rfl, rfl, _, _, _, rfl, rfl, rfl, rfl, ?_⟩
          ((repeat ((conv => whnf); first | refine brT ?_ | refine brF ?_)); conv => whnf)
          unfold sucLV famLV Cus.lv uLV at hIH
          refine ⟨[0], _, _, _, _, hIH, rfl, rfl, rfl, trivial, ?_⟩
          ((repeat ((conv => whnf); first | refine brT ?_ | refine brF ?_)); conv => whnf)
          subst hK
          refine round_endR [.old 0] (k + 1) hIn (by omega) ⟨?_, ⟨rfl, congrArg (fun Q => Blk.tree 99 8 [sucLV ps us x y Q]) e5, trivial⟩, rfl⟩
          ((repeat ((conv => whnf); first | refine ⟨rfl, e, ?_⟩ | refine ⟨rfl, rfl, ?_⟩)); trivial)
      · have e5 := hfin (M, out) (by rw [skip (by rw [hM]; rfl)])
        ((repeat ((conv => whnf); first | refine brT ?_ | refine brF ?_)); conv => whnf)
        subst hK
        refine round_endR [.old 0] (k + 1) hIn (by omega) ⟨?_, ⟨rfl, congrArg (fun Q => Blk.tree 99 8 [sucLV ps us x y Q]) e5, trivial⟩, rfl⟩
        ((repeat ((conv => whnf); first | refine ⟨rfl, e, ?_⟩ | refine ⟨rfl, rfl, ?_⟩)); trivial)
    · have h4 : k = L.length := by rw [ltI_f] at g1; omega
      subst h4
      subst hK
      have e9 : (L.take L.length).foldl (stpI ps x y (addI ps x y d)) S = L.foldl (stpI ps x y (addI ps x y d)) S := by rw [List.take_length]
      rw [e9]
      unfold sucLV famLV Cus.lv uLV
      ((repeat ((conv => whnf); first | refine brT ?_ | refine brF ?_)); conv => whnf)
      exact ⟨[], rfl, rfl, .inr ⟨[.old 0], trivial, ⟨rfl, rfl, trivial⟩, rfl⟩⟩
end Go.Proofs.YtbiagkccgijdlaaGreat


namespace Go.Proofs.YtbiagkccgijdlaaGreat
open Go.Lg Go.Pm
set_option maxHeartbeats 6400000
set_option maxRecDepth 10000
set_option linter.unusedVariables false
set_option linter.unusedSimpArgs false

/-! ### The heirs below, as the model finds them -/
def seenB (I : Nat → Bool) (out : List Nat) (q : Nat) : Bool := I q || out.contains q
def mkL (n : Nat) (M : Nat → Bool) : List LV := ((List.range n).map M).map bLV
theorem mkL_len (n : Nat) (M : Nat → Bool) : (mkL n M).length = n := by simp [mkL]
theorem mkL_get {n : Nat} {M : Nat → Bool} {i : Nat} (h : i < n) : (mkL n M)[i]? = some (.bool (M i)) := by simp [mkL, h, bLV]
theorem mkL_set {n : Nat} {M M' : Nat → Bool} {i : Nat} (h : ∀ j, j < n → M' j = if j = i then true else M j) : (mkL n M).set i (.bool true) = mkL n M' := by
  apply List.ext_getElem (by simp [mkL])
  intro j h1 h2
  have hj : j < n := by simpa [mkL] using h2
  rw [List.getElem_set]
  simp only [mkL, List.getElem_map, List.getElem_range, bLV]
  rw [h j hj]
  by_cases e : i = j
  · subst e; simp
  · have : ¬ j = i := fun e2 => e e2.symm
    simp [e, this]
def stB (ps : List Per) (x : Cus) (y : Int) (I : Nat → Bool) (out : List Nat) (c : Nat) : List Nat := fldO I out (brN ps x y c)
theorem stB_fold (ps : List Per) (x : Cus) (y : Int) (I : Nat → Bool) : ∀ (L out : List Nat), L.foldl (stB ps x y I) out = fldO I out (L.flatMap (brN ps x y))
  | [], out => rfl
  | c :: L, out => by
    rw [List.foldl_cons, stB_fold ps x y I L, List.flatMap_cons, fldO_app]
    rfl
theorem alv_late {ps : List Per} {us : List Uni} (hf : famOk ps us = true) {y : Int} {i : Nat} (hi : i < ps.length) (h : y < ps[i].born) : alv ps y i = false := by
  simp only [alv, List.getElem?_eq_getElem hi, aliveB]
  rw [show leI ps[i].born y = false by rw [leI_f]; omega]
  rfl
theorem child_late {ps : List Per} {us : List Uni} (hf : famOk ps us = true) {p i : Nat} (hi : i < ps.length) (hp : p < ps.length) (h : chQ ps (p : Int) i = true) : ps[p].born < ps[i].born := by
  obtain ⟨_, _, hpp, _, _⟩ := famOk_parts hf
  obtain ⟨_, _, _, _, _, _, p1, p2⟩ := personOk_spec (personsTo_get hpp hi hi)
  simp only [chQ, List.getElem?_eq_getElem hi, chB, Bool.or_eq_true, eqI_t] at h
  have key : ∀ {x s : Int}, parentOk (ps.take i) x s ps[i].born = true → x = (p : Int) → ps[p].born < ps[i].born := fun {x s} h e => by
    unfold parentOk at h
    simp only [Bool.or_eq_true, eqI_t, Bool.and_eq_true, leI_t] at h
    rcases h with h | ⟨h0, h1⟩
    · omega
    · split at h1
      · cases h1
      · rename_i q hq
        obtain ⟨hl, e2⟩ := List.getElem?_eq_some_iff.1 hq
        simp only [Bool.and_eq_true, eqI_t] at h1
        rw [List.getElem_take] at e2
        have : x.toNat = p := by omega
        subst this
        have := h1.2.1
        rw [ltI_t, ← e2] at this
        exact this
  rcases h with h | h
  · exact key p1 h
  · exact key p2 h
theorem late_none {ps : List Per} {us : List Uni} (hf : famOk ps us = true) (x : Cus) (y : Int) : ∀ (d p : Nat), ps.length ≤ p + d → ∀ (hp : p < ps.length), y < ps[p].born → desN ps x y p = []
  | 0, p, h, hp, hy => by omega
  | d + 1, p, h, hp, hy => by
    rw [desN_eq (fam_pi hf)]
    rw [List.flatMap_eq_nil_iff]
    intro c hc
    obtain ⟨hcn, hpc, hch⟩ := ordL_mem (fam_pi hf) hc
    have hb := child_late hf hcn hp hch
    have ha := alv_late hf (y := y) hcn (by omega)
    have hn := late_none hf x y d c (by omega) hcn (by omega)
    unfold brN ownN
    rw [ha, hn]
    cases x.repr <;> rfl
theorem br_late {ps : List Per} {us : List Uni} (hf : famOk ps us = true) (x : Cus) (y : Int) {c : Nat} (hc : c < ps.length) (h : y < ps[c].born) : brN ps x y c = [] := by
  unfold brN ownN
  rw [alv_late hf hc h, late_none hf x y ps.length c (by omega) hc h]
  cases x.repr <;> rfl
theorem fldO_lt {I : Nat → Bool} {n : Nat} {l out : List Nat} (ho : ∀ q ∈ out, q < n) (hl : ∀ q ∈ l, q < n) : ∀ q ∈ fldO I out l, q < n := fun q hq => by
  rcases fldO_mem I l out q hq with h | ⟨h, _⟩
  · exact ho q h
  · exact hl q h
theorem below_h {ps : List Per} {us : List Uni} (hf : famOk ps us = true) (x : Cus) (y : Int) (I : Nat → Bool) : ∀ (d p : Nat), ps.length ≤ p + d → p < ps.length → ∀ out : List Nat, out.Nodup → (∀ q ∈ out, q < ps.length) →
    HSpec env.P 75 [famLV ps us, x.lv, .int .i64 (p : Int), .int .i64 y, .hs 0 ps.length, .hs 1 (out.map natLV).length] [.arr 4 1 (mkL ps.length (seenB I out)), .arr 3 1 (out.map natLV)]
      (.hs 2 ((fldO I out (desN ps x y p)).map natLV).length) [.arr 4 1 (mkL ps.length (seenB I (fldO I out (desN ps x y p)))), .dead, .arr 3 1 ((fldO I out (desN ps x y p)).map natLV)]
  | 0, p, h, hp, out, hnd, hlt => by omega
  | d + 1, p, h, hp, out, hnd, hlt => by
    refine HSpec_of_code (E := env.x [75] 2) env_ok.x (fn := Tryz.f75) Tryz.func75 rfl Tryz.call75 _ _ _ _ ?_
    have h40 := fam_40 hf
    have hO : FSpec env.P 114 [famLV ps us, x.lv, .int .i64 (p : Int)] (.own 3 1 ((ordL ps x (p : Int)).map natLV)) := by
      rw [← chl_ord hf x (p : Int)]
      exact FSpec_of_HSpec (l10Children_h ps us x (p : Int) h40) (by simp [exW])
    have hLm : ∀ c ∈ ordL ps x (p : Int), p < c ∧ c < ps.length := fun c hc => ⟨(ordL_mem (fam_pi hf) hc).2.1, (ordL_mem (fam_pi hf) hc).1⟩
    have hLl := ordL_len ps x (p : Int)
    rw [desN_eq (fam_pi hf) x y p, ← stB_fold]
    generalize ordL ps x (p : Int) = L at hLm hLl hO
    have hN := nats_len L
    have hml : ∀ M, (mkL ps.length M).length = ps.length := mkL_len ps.length
    have hnl : ∀ l : List Nat, (l.map natLV).length = l.length := nats_len
    have hnd : ∀ l, (fldO I out l).Nodup := fun l => fldO_nodup I l out hnd
    have hsl : ∀ k, k ≤ L.length → ∀ q ∈ (L.take k).foldl (stB ps x y I) out, q < ps.length := fun k hk => by
      rw [stB_fold]
      refine fldO_lt hlt fun q hq => ?_
      obtain ⟨c, hc, hq⟩ := List.mem_flatMap.1 hq
      have hcL := hLm c (List.mem_of_mem_take hc)
      unfold brN ownN at hq
      rcases List.mem_append.1 hq with hq | hq
      · split at hq <;> simp at hq
        omega
      · split at hq
        · exact (desN_mem (fam_pi hf) x y ps.length c (by omega) q hq).2.1
        · simp at hq
    have hsn : ∀ k, ((L.take k).foldl (stB ps x y I) out).Nodup := fun k => by rw [stB_fold]; exact hnd _
    unfold famLV Cus.lv at hO ⊢
    ((repeat ((conv => whnf); first | refine brT ?_ | refine brF ?_)); conv => whnf)
    refine ⟨_, hO, ?_⟩
    ((repeat ((conv => whnf); first | refine brT ?_ | refine brF ?_)); conv => whnf)
    intro _
    rw [hN]
    ((repeat ((conv => whnf); first | refine brT ?_ | refine brF ?_)); conv => whnf)
    refine loop_ruleR (α := Nat) [.old 0, .gone, .old 2, .old 3, .old 1] (fun k => [(21, .int .i64 (k : Int)), (5, .hs 4 (((L.take k).foldl (stB ps x y I) out).map natLV).length)])
      (fun k => [.arr 4 1 (mkL ps.length (seenB I ((L.take k).foldl (stB ps x y I) out))), .dead, .box (famLV ps us), .box x.lv, .arr 3 1 (((L.take k).foldl (stB ps x y I) out).map natLV)]) (fun k => L.length - k) (fun k => k ≤ L.length) 0 (Nat.zero_le _) ?_ ?_
    · refine ⟨?_, ⟨rfl, rfl, rfl, rfl, rfl, rfl, rfl, rfl, trivial⟩, rfl⟩
      ((repeat ((conv => whnf); refine ⟨rfl, rfl, ?_⟩)); trivial)
    intro k hk
    generalize hK : kk _ = KK
    unfold famLV Cus.lv
    ((repeat ((conv => whnf); first | refine brT ?_ | refine brF ?_)); conv => whnf)
    (refine ⟨fun g1 => ?_, fun g1 => ?_⟩ <;> rw [g1])
    · have hlt : k < L.length := by rw [ltI_t] at g1; omega
      have e := step_i hlt (by unfold Go.maxLen; omega)
      obtain ⟨hpc, hcn⟩ := hLm L[k] (List.getElem_mem hlt)
      have hg : (L.map natLV)[k]? = some (.int .i64 (L[k] : Int)) := by rw [List.getElem?_map, List.getElem?_eq_getElem hlt]; rfl
      have hgp : (ps.map Per.lv)[L[k]]? = some ps[L[k]].lv := by simp [hcn]
      have hst : (L.take (k + 1)).foldl (stB ps x y I) out = stB ps x y I ((L.take k).foldl (stB ps x y I) out) L[k] := by
        rw [List.take_succ_eq_append_getElem hlt, List.foldl_append]; rfl
      have hlate : y < ps[L[k]].born → brN ps x y L[k] = [] := fun hh => br_late hf x y hcn hh
      have hal := alive_spec ps us L[k] y hcn
      generalize L[k] = c at hpc hcn hg hgp hst hlate hal
      have hs0 := hsl k hk
      have hs1 := hsl (k + 1) hlt
      have hn0 := hsn k
      generalize hS1 : (L.take (k + 1)).foldl (stB ps x y I) out = R at hst hs1
      have hfin : ∀ Q, Q = R → Q = (L.take (k + 1)).foldl (stB ps x y I) out := fun Q h => h.trans hS1.symm
      generalize hS : (L.take k).foldl (stB ps x y I) out = out0 at hst hs0 hn0
      have h0l : out0.length ≤ ps.length := nodup_lt _ _ hn0 hs0
      have hbo : ∀ (q : Per), (ps.map Per.lv)[c]? = some q.lv → ps[c].lv = q.lv := fun q h => by rw [hgp] at h; exact Option.some.inj h
      generalize ps[c] = q at hgp hlate hbo
      clear hbo
      obtain ⟨nm, sx, fa, mo, bo, di⟩ := q
      unfold famLV at hal
      ((repeat ((conv => whnf); first | refine brT ?_ | refine brF ?_)); conv => whnf)
      refine ⟨k, _, rfl, hg, rfl, ?_⟩
      ((repeat ((conv => whnf); first | refine brT ?_ | refine brF ?_)); conv => whnf)
      refine ⟨c, _, rfl, hgp, rfl, ?_⟩
      ((repeat ((conv => whnf); first | refine brT ?_ | refine brF ?_)); conv => whnf)
      (refine ⟨fun g2 => ?_, fun g2 => ?_⟩ <;> rw [g2])
      · have e5 : R = out0 := by
          rw [hst]; unfold stB
          rw [hlate (by rw [ltI_t] at g2; exact g2)]; rfl
        ((repeat ((conv => whnf); first | refine brT ?_ | refine brF ?_)); conv => whnf)
        have e7 := hfin out0 e5.symm
        subst hK
        have e8 : LV.hs 4 ((out0).map natLV).length = LV.hs 4 (((L.take (k + 1)).foldl (stB ps x y I) out).map natLV).length := by rw [← e7]
        refine round_endR [.old 0, .gone, .old 2, .old 3, .old 4] (k + 1) hlt (by omega) ⟨?_, ⟨rfl, congrArg (fun o => Blk.arr 4 1 (mkL ps.length (seenB I o))) e7, rfl, rfl, rfl, rfl, rfl, congrArg (fun o : List Nat => Blk.arr 3 1 (o.map natLV)) e7, trivial⟩, rfl⟩
        repeat ((conv => whnf); first | refine ⟨rfl, e, ?_⟩ | refine ⟨rfl, e8, ?_⟩ | refine ⟨rfl, rfl, ?_⟩)
        trivial
      ((repeat ((conv => whnf); first | refine brT ?_ | refine brF ?_)); conv => whnf)
      refine ⟨_, hal, ?_⟩
      have hbr : brN ps x y c = (match alv ps y c with | true => [c] | false => []) ++ (match alv ps y c || x.repr with | true => desN ps x y c | false => []) := rfl
      generalize alv ps y c = A at hal hbr
      cases A
      · ((repeat ((conv => whnf); first | refine brT ?_ | refine brF ?_)); conv => whnf)
        (refine ⟨fun g5 => ?_, fun g5 => ?_⟩ <;> rw [g5])
        · have hIH := below_h hf x y I d c (by omega) hcn out0 hn0 hs0
          unfold famLV Cus.lv at hIH
          rw [g5] at hIH
          have e5 : R = fldO I out0 (desN ps x y c) := by rw [hst]; unfold stB; rw [hbr, g5]; rfl
          have e7 := hfin _ e5.symm
          ((repeat ((conv => whnf); first | refine brT ?_ | refine brF ?_)); conv => whnf)
          refine ⟨[0, 4], _, _, _, _, hIH, rfl, rfl, rfl, trivial, ?_⟩
          ((repeat ((conv => whnf); first | refine brT ?_ | refine brF ?_)); conv => whnf)
          subst hK
          have e8 : LV.hs 4 ((fldO I out0 (desN ps x y c)).map natLV).length = LV.hs 4 (((L.take (k + 1)).foldl (stB ps x y I) out).map natLV).length := by rw [← e7]
          refine round_endR [.old 0, .gone, .old 2, .old 3, .old 5] (k + 1) hlt (by omega) ⟨?_, ⟨rfl, congrArg (fun o => Blk.arr 4 1 (mkL ps.length (seenB I o))) e7, rfl, rfl, rfl, rfl, rfl, congrArg (fun o : List Nat => Blk.arr 3 1 (o.map natLV)) e7, trivial⟩, rfl⟩
          repeat ((conv => whnf); first | refine ⟨rfl, e, ?_⟩ | refine ⟨rfl, e8, ?_⟩ | refine ⟨rfl, rfl, ?_⟩)
          trivial
        · have e5 : R = out0 := by rw [hst]; unfold stB; rw [hbr, g5]; rfl
          have e7 := hfin _ e5.symm
          ((repeat ((conv => whnf); first | refine brT ?_ | refine brF ?_)); conv => whnf)
          subst hK
          have e8 : LV.hs 4 ((out0).map natLV).length = LV.hs 4 (((L.take (k + 1)).foldl (stB ps x y I) out).map natLV).length := by rw [← e7]
          refine round_endR [.old 0, .gone, .old 2, .old 3, .old 4] (k + 1) hlt (by omega) ⟨?_, ⟨rfl, congrArg (fun o => Blk.arr 4 1 (mkL ps.length (seenB I o))) e7, rfl, rfl, rfl, rfl, rfl, congrArg (fun o : List Nat => Blk.arr 3 1 (o.map natLV)) e7, trivial⟩, rfl⟩
          repeat ((conv => whnf); first | refine ⟨rfl, e, ?_⟩ | refine ⟨rfl, e8, ?_⟩ | refine ⟨rfl, rfl, ?_⟩)
          trivial
      · ((repeat ((conv => whnf); first | refine brT ?_ | refine brF ?_)); conv => whnf)
        refine ⟨(hml _).symm, rfl, c, rfl, by rw [hml]; exact hcn, ?_⟩
        ((repeat ((conv => whnf); first | refine brT ?_ | refine brF ?_)); conv => whnf)
        refine ⟨(hml _).symm, by simp, _, getP1 (mkL_get hcn), rfl, ?_⟩
        ((repeat ((conv => whnf); first | refine brT ?_ | refine brF ?_)); conv => whnf)
        cases hsc : seenB I out0 c
        · rw [show notB false = true by simp [notB]]
          ((repeat ((conv => whnf); first | refine brT ?_ | refine brF ?_)); conv => whnf)
          refine ⟨(hml _).symm, rfl, c, rfl, by rw [hml]; exact hcn, ?_⟩
          ((repeat ((conv => whnf); first | refine brT ?_ | refine brF ?_)); conv => whnf)
          have hse : (mkL ps.length (seenB I out0)).set c (.bool true) = mkL ps.length (seenB I (out0 ++ [c])) := mkL_set fun j _ => by
            unfold seenB
            rw [List.contains_append]
            by_cases e : j = c
            · subst e; simp
            · simp [e]
          refine ⟨(hml _).symm, c, [], _, rfl, getP1 (mkL_get hcn), rfl, rfl, rfl, mkL ps.length (seenB I (out0 ++ [c])), by rw [mkL_get hcn]; exact hse, ?_⟩
          have e9 : out0.map natLV ++ [LV.int .i64 (c : Int)] = (out0 ++ [c]).map natLV := by rw [List.map_append]; rfl
          have hcI : c ∉ out0 ∧ I c = false := by
            unfold seenB at hsc
            rw [Bool.or_eq_false_iff] at hsc
            exact ⟨by simpa using hsc.2, hsc.1⟩
          have hn1 : (out0 ++ [c]).Nodup := by
            rw [List.nodup_append]
            refine ⟨hn0, by simp, fun a ha b hb => ?_⟩
            simp at hb; subst hb
            intro e2; subst e2; exact hcI.1 ha
          have hl1 : ∀ q ∈ out0 ++ [c], q < ps.length := fun q hq => by
            rcases List.mem_append.1 hq with h | h
            · exact hs0 q h
            · simp at h; omega
          have h1l : (out0 ++ [c]).length ≤ ps.length := nodup_lt _ _ hn1 hl1
          ((repeat ((conv => whnf); first | refine brT ?_ | refine brF ?_)); conv => whnf)
          refine ⟨rfl, rfl, ?_, ?_, ?_⟩
          · rw [e9, hnl]; unfold Go.maxLen; omega
          · rw [e9, hnl]; show (out0 ++ [c]).length * 8 ≤ _; omega
          rw [e9]
          have hIH := below_h hf x y I d c (by omega) hcn (out0 ++ [c]) hn1 hl1
          unfold famLV Cus.lv at hIH
          have e5 : R = fldO I (out0 ++ [c]) (desN ps x y c) := by
            rw [hst]; unfold stB; rw [hbr]
            simp only [Bool.true_or]
            rw [fldO_app]
            congr 1
            show stpO I out0 c = out0 ++ [c]
            unfold stpO
            rw [show (I c || out0.contains c) = false from hsc]
          have e7 := hfin _ e5.symm
          ((repeat ((conv => whnf); first | refine brT ?_ | refine brF ?_)); conv => whnf)
          refine ⟨[0, 6], _, _, _, _, hIH, rfl, rfl, rfl, trivial, ?_⟩
          ((repeat ((conv => whnf); first | refine brT ?_ | refine brF ?_)); conv => whnf)
          subst hK
          have e8 : LV.hs 4 ((fldO I (out0 ++ [c]) (desN ps x y c)).map natLV).length = LV.hs 4 (((L.take (k + 1)).foldl (stB ps x y I) out).map natLV).length := by rw [← e7]
          refine round_endR [.old 0, .gone, .old 2, .old 3, .old 7] (k + 1) hlt (by omega) ⟨?_, ⟨rfl, congrArg (fun o => Blk.arr 4 1 (mkL ps.length (seenB I o))) e7, rfl, rfl, rfl, rfl, rfl, congrArg (fun o : List Nat => Blk.arr 3 1 (o.map natLV)) e7, trivial⟩, rfl⟩
          repeat ((conv => whnf); first | refine ⟨rfl, e, ?_⟩ | refine ⟨rfl, e8, ?_⟩ | refine ⟨rfl, rfl, ?_⟩)
          trivial
        · rw [show notB true = false by simp [notB]]
          have hIH := below_h hf x y I d c (by omega) hcn out0 hn0 hs0
          unfold famLV Cus.lv at hIH
          have e5 : R = fldO I out0 (desN ps x y c) := by
            rw [hst]; unfold stB; rw [hbr]
            simp only [Bool.true_or]
            rw [fldO_app]
            congr 1
            show stpO I out0 c = out0
            unfold stpO
            rw [show (I c || out0.contains c) = true from hsc]
          have e7 := hfin _ e5.symm
          ((repeat ((conv => whnf); first | refine brT ?_ | refine brF ?_)); conv => whnf)
          refine ⟨[0, 4], _, _, _, _, hIH, rfl, rfl, rfl, trivial, ?_⟩
          ((repeat ((conv => whnf); first | refine brT ?_ | refine brF ?_)); conv => whnf)
          subst hK
          have e8 : LV.hs 4 ((fldO I out0 (desN ps x y c)).map natLV).length = LV.hs 4 (((L.take (k + 1)).foldl (stB ps x y I) out).map natLV).length := by rw [← e7]
          refine round_endR [.old 0, .gone, .old 2, .old 3, .old 5] (k + 1) hlt (by omega) ⟨?_, ⟨rfl, congrArg (fun o => Blk.arr 4 1 (mkL ps.length (seenB I o))) e7, rfl, rfl, rfl, rfl, rfl, congrArg (fun o : List Nat => Blk.arr 3 1 (o.map natLV)) e7, trivial⟩, rfl⟩
          repeat ((conv => whnf); first | refine ⟨rfl, e, ?_⟩ | refine ⟨rfl, e8, ?_⟩ | refine ⟨rfl, rfl, ?_⟩)
          trivial
    · have h4 : k = L.length := by rw [ltI_f] at g1; omega
      subst h4
      subst hK
      rw [List.take_length]
      ((repeat ((conv => whnf); first | refine brT ?_ | refine brF ?_)); conv => whnf)
      exact ⟨[.hs 2 ((L.foldl (stB ps x y I) out).map natLV).length], rfl, rfl, .inr ⟨[.old 0, .gone, .old 4], ⟨rfl, rfl, trivial⟩, ⟨rfl, rfl, rfl, rfl, trivial⟩, rfl⟩⟩
end Go.Proofs.YtbiagkccgijdlaaGreat


namespace Go.Proofs.YtbiagkccgijdlaaGreat
open Go.Lg Go.Pm
set_option maxHeartbeats 3200000
set_option maxRecDepth 10000
set_option linter.unusedVariables false
set_option linter.unusedSimpArgs false

theorem bitsP_none (n : Nat) : bitsP n (fun _ => false) = 0 := by
  induction n with
  | zero => rfl
  | succ n ih => simp [bitsP, ih]
theorem mkL_none (n : Nat) : mkL n (seenB (fun _ => false) []) = List.replicate n (.bool false) := by
  apply List.ext_getElem (by simp [mkL])
  intro i h1 h2
  simp [mkL, seenB, bLV]
def noI : Nat → Bool := fun _ => false
end Go.Proofs.YtbiagkccgijdlaaGreat

namespace Go.Proofs.YtbiagkccgijdlaaGreat
open Go.Lg Go.Pm
set_option maxHeartbeats 3200000
set_option maxRecDepth 10000
set_option linter.unusedVariables false
set_option linter.unusedSimpArgs false

/-! ### The way up -/
def nxtP (pr : Int) (q : Per) : Int := match eqI pr 3 with
  | true => q.father
  | false => match eqI pr 4 || eqI q.father (-1) with
    | true => q.mother
    | false => q.father
def nxt (ps : List Per) (pr : Int) (q : Int) : Int := match ps[q.toNat]? with | some x => nxtP pr x | none => -1
theorem nxt_lt {ps : List Per} (hp : parsIn ps) {pr q : Int} (h0 : 0 ≤ q) (hq : q.toNat < ps.length) : -1 ≤ nxt ps pr q ∧ nxt ps pr q < q := by
  obtain ⟨h1, h2⟩ := hp q.toNat hq
  simp only [nxt, List.getElem?_eq_getElem hq, nxtP]
  unfold parIn at h1 h2
  cases eqI pr 3
  · cases eqI pr 4 || eqI ps[q.toNat].father (-1) <;> simp only <;> omega
  · simp only; omega
def upI (ps : List Per) (x : Cus) (y : Int) : Nat → Int → (Nat → Bool) × List Nat → (Nat → Bool) × List Nat
  | 0, _, S => S
  | d + 1, q, S => match leI 0 q with | true => upI ps x y d (nxt ps x.prefer q) (addI ps x y ps.length q.toNat S) | false => S
def upwO (ps : List Per) (x : Cus) (y : Int) (I : Nat → Bool) : Nat → Int → List Nat → List Nat
  | 0, _, out => out
  | d + 1, q, out => match leI 0 q with | true => upwO ps x y I d (nxt ps x.prefer q) (fldO I out (desN ps x y q.toNat)) | false => out
structure UpOk (ps : List Per) (x : Cus) (y : Int) (p : Nat) (q : Int) (S : (Nat → Bool) × List Nat) : Prop where
  ok : Ok ps (insP noI p) S
  cl : ∀ m, S.1 m = true → (q < (m : Int) ∧ clo ps x y (insP noI p) S.2 m) ∨ (m = p ∧ q = (p : Int))
theorem UpOk.step {ps : List Per} (hp : parsIn ps) {x : Cus} {y : Int} {p : Nat} {q : Int} {S : (Nat → Bool) × List Nat} (h : UpOk ps x y p q S) (h0 : 0 ≤ q) (hq : q.toNat < ps.length) :
    UpOk ps x y p (nxt ps x.prefer q) (addI ps x y ps.length q.toNat S) ∧ (addI ps x y ps.length q.toNat S).2 = fldO (insP noI p) S.2 (desN ps x y q.toNat) := by
  have r := addI_ok hp x y (insP noI p) ps.length q.toNat (by omega) S h.ok fun m hm hqm => by
    rcases h.cl m hm with ⟨_, h⟩ | ⟨rfl, h⟩
    · exact h
    · omega
  have hn := (nxt_lt hp (pr := x.prefer) h0 hq).2
  refine ⟨⟨r.ok, fun m hm => .inl ?_⟩, r.out⟩
  rcases r.new m hm with hs | hs
  · rcases h.cl m hs with ⟨h1, h2⟩ | ⟨rfl, h1⟩
    · refine ⟨by omega, ?_⟩
      rw [r.out]; exact clo_mono h2
    · refine ⟨by omega, ?_⟩
      rw [r.out]
      intro z hz
      unfold brN ownN at hz
      rcases List.mem_append.1 hz with hz | hz
      · split at hz <;> simp at hz
        subst hz
        exact .inl (by simp [insP])
      · split at hz
        · rw [show q.toNat = m by omega]
          exact fldO_in _ _ _ z hz
        · simp at hz
  · exact ⟨by omega, r.cl m hm hs⟩
theorem up_eq {ps : List Per} (hp : parsIn ps) (x : Cus) (y : Int) (p : Nat) : ∀ (d : Nat) (q : Int) (S : (Nat → Bool) × List Nat), q < ps.length → UpOk ps x y p q S → (upI ps x y d q S).2 = upwO ps x y (insP noI p) d q S.2
  | 0, q, S, _, h => rfl
  | d + 1, q, S, hq, h => by
    unfold upI upwO
    cases e : leI 0 q
    · rfl
    · rw [leI_t] at e
      obtain ⟨h1, h2⟩ := h.step hp e (by omega)
      have hn := (nxt_lt hp (pr := x.prefer) e (by omega)).2
      simp only
      rw [up_eq hp x y p d _ _ (by omega) h1, h2]
theorem UpOk.start {ps : List Per} (x : Cus) (y : Int) (p : Nat) : UpOk ps x y p (p : Int) (insP noI p, []) :=
  ⟨⟨fun q h => h, fun q h => by simp at h, List.nodup_nil, fun q h => by simp at h⟩, fun m hm => .inr (by
    simp only [insP] at hm
    split at hm
    · rename_i e; exact ⟨e, rfl⟩
    · cases hm)⟩
theorem upwO_ok {ps : List Per} (hp : parsIn ps) (x : Cus) (y : Int) (I : Nat → Bool) : ∀ (d : Nat) (q : Int) (out : List Nat), q < ps.length → out.Nodup → (∀ z ∈ out, z < ps.length) → (upwO ps x y I d q out).Nodup ∧ ∀ z ∈ upwO ps x y I d q out, z < ps.length
  | 0, q, out, _, h1, h2 => ⟨h1, h2⟩
  | d + 1, q, out, hq, h1, h2 => by
    unfold upwO
    cases e : leI 0 q
    · exact ⟨h1, h2⟩
    · rw [leI_t] at e
      have hn := (nxt_lt hp (pr := x.prefer) e (by omega)).2
      exact upwO_ok hp x y I d _ _ (by omega) (fldO_nodup I _ _ h1) (fldO_lt h2 fun z hz => (desN_mem hp x y ps.length q.toNat (by omega) z hz).2.1)

/-! ### Sets of numbers -/
theorem add_box (s : Nat) (b : Int) (hs : s < 2 ^ 64) (h0 : 0 ≤ b) (h1 : b < 64) : HSpec env.P 76 [.hp 0 0 [], .int .i64 b] [.box (uLV s)] (.tup []) [.box (uLV (s ||| 2 ^ b.toNat))] := by
  refine HSpec_of_code (E := env.x [] 1) env_ok.x (fn := Tryz.f76) Tryz.func76 rfl Tryz.call76 _ _ _ _ ?_
  ((repeat ((conv => whnf); first | refine brT ?_ | refine brF ?_)); conv => whnf)
  refine ⟨true, by kernel_rfl, ?_⟩
  ((repeat ((conv => whnf); first | refine brT ?_ | refine brF ?_)); conv => whnf)
  refine ⟨h0, ?_⟩
  ((repeat ((conv => whnf); first | refine brT ?_ | refine brF ?_)); conv => whnf)
  have e : LV.int .u64 (Go.Lg.orI .u64 (s : Int) (shlI .u64 1 b)) = uLV (s ||| 2 ^ b.toNat) := by rw [shlI_one h0 h1, orI_nat hs (two_lt (by omega))]; rfl
  exact ⟨[], rfl, rfl, .inl ⟨trivial, ⟨congrArg Blk.box e, trivial⟩, rfl, rfl⟩⟩
theorem setOf_spec (row : List Int) (hr : inSize row) (hm : row.length ≤ Go.maxLen) : FSpec env.P 54 [.sl (row.map intLV)] (uLV (setN row)) := by
  refine FSpec_of_code (E := env.x [76] 0) env_ok.x (fn := Tryz.f54) Tryz.func54 rfl Tryz.call54 _ _ ?_
  ((repeat ((conv => whnf); first | refine brT ?_ | refine brF ?_)); conv => whnf)
  intro _
  rw [List.length_map]
  ((repeat ((conv => whnf); first | refine brT ?_ | refine brF ?_)); conv => whnf)
  refine loop_rule (α := Nat) (fun k => [(8, .int .i64 (k : Int))]) (fun k => [.box (uLV (setFrom 0 (row.take k)))]) (fun k => row.length - k) (fun k => k ≤ row.length) 0 (Nat.zero_le _) ?_ ?_
  · refine ⟨?_, ⟨rfl, trivial⟩, rfl, rfl⟩
    ((repeat ((conv => whnf); refine ⟨rfl, ?_⟩)); trivial)
  rintro k hk
  ((repeat ((conv => whnf); first | refine brT ?_ | refine brF ?_)); conv => whnf)
  (refine ⟨fun h1 => ?_, fun h1 => ?_⟩ <;> rw [h1])
  · have hlt : k < row.length := by rw [ltI_t] at h1; omega
    have hb := hr row[k] (List.getElem_mem hlt)
    have e := step_i hlt hm
    have hs : setFrom 0 (row.take k) < 2 ^ 64 := setFrom_lt _ _ (by decide) fun x hx => hr x (List.mem_of_mem_take hx)
    have es : setFrom 0 (row.take (k + 1)) = setFrom 0 (row.take k) ||| 2 ^ row[k].toNat := by
      rw [List.take_succ_eq_append_getElem hlt]
      generalize row.take k = l
      generalize (0 : Nat) = z
      induction l generalizing z with
      | nil => rfl
      | cons y ys ih => simp only [List.cons_append, setFrom]; exact ih _
    ((repeat ((conv => whnf); first | refine brT ?_ | refine brF ?_)); conv => whnf)
    refine ⟨k, intLV row[k], rfl, by simp [hlt], rfl, ?_⟩
    ((repeat ((conv => whnf); first | refine brT ?_ | refine brF ?_)); conv => whnf)
    refine ⟨[0], _, _, _, _, add_box _ row[k] hs hb.1 (by omega), rfl, rfl, rfl, trivial, ?_⟩
    ((repeat ((conv => whnf); first | refine brT ?_ | refine brF ?_)); conv => whnf)
    refine round_end (k + 1) hlt (by omega) ⟨?_, ⟨congrArg (fun s => Blk.box (uLV s)) es.symm, trivial⟩, rfl, rfl⟩
    ((repeat ((conv => whnf); first | refine ⟨e, ?_⟩ | refine ⟨rfl, ?_⟩)); trivial)
  · have h3 : k = row.length := by rw [ltI_f] at h1; omega
    subst h3
    ((repeat ((conv => whnf); first | refine brT ?_ | refine brF ?_)); conv => whnf)
    exact ⟨rfl, by rw [List.take_length]; rfl, List.nodup_nil⟩
theorem setOne {n p : Nat} (hp : p < n) : setN [(p : Int)] = bitsP n (insP noI p) := by
  show 0 ||| 2 ^ ((p : Int)).toNat = _
  rw [show ((p : Int)).toNat = p from rfl, ← bitsP_none n, bitsP_add hp]
  rfl
theorem nextUp_spec (q : Per) (pr : Int) : FSpec env.P 55 [q.lv, .int .i64 pr] (.int .i64 (nxtP pr q)) := by
  obtain ⟨nm, sx, fa, mo, bo, di⟩ := q
  refine FSpec_of_code env_ok (fn := Tryz.f55) Tryz.func55 rfl Tryz.call55 _ _ ?_
  unfold nxtP
  ((repeat' (((repeat ((conv => whnf); first | refine brT ?_ | refine brF ?_)); conv => whnf); first | (refine And.intro ?_ ?_ <;> (intro h; rw [h]; revert h; intro _)) | (refine Exists.intro true (And.intro (a := drawB _ _ = true) (by kernel_rfl) ?_)) | (refine Exists.intro _ (And.intro () ?_)))); all_goals ((repeat ((conv => whnf); first | refine brT ?_ | refine brF ?_)); conv => whnf))
  all_goals exact ⟨rfl, by simp_all, List.nodup_nil⟩
theorem next_spec (ps : List Per) (us : List Uni) (x : Cus) (q : Nat) (hp : parsIn ps) (hq : q < ps.length) : FSpec env.P 74 [famLV ps us, x.lv, .int .i64 (q : Int)] (.int .i64 (nxt ps x.prefer (q : Int))) := by
  have hg : (ps.map Per.lv)[q]? = some ps[q].lv := by simp [hq]
  have hn : nxt ps x.prefer (q : Int) = nxtP x.prefer ps[q] := by simp [nxt, hq]
  have hfa := (hp q hq).1
  rw [hn]
  generalize ps[q] = z at hg hfa
  obtain ⟨nm, sx, fa, mo, bo, di⟩ := z
  obtain ⟨pr, yo, re⟩ := x
  have hlt : ltI fa 0 = eqI fa (-1) := by
    unfold parIn at hfa
    simp only at hfa
    rw [Bool.eq_iff_iff, ltI_t, eqI_t]
    omega
  refine FSpec_of_code env_ok (fn := Tryz.f74) Tryz.func74 rfl Tryz.call74 _ _ ?_
  unfold nxtP
  ((repeat ((conv => whnf); first | refine brT ?_ | refine brF ?_)); conv => whnf)
  refine ⟨q, _, rfl, hg, rfl, ?_⟩
  rw [← hlt]
  ((repeat' (((repeat ((conv => whnf); first | refine brT ?_ | refine brF ?_)); conv => whnf); first | (refine And.intro ?_ ?_ <;> (intro h; rw [h]; revert h; intro _)) | (refine Exists.intro true (And.intro (a := drawB _ _ = true) (by kernel_rfl) ?_)) | (refine Exists.intro _ (And.intro () ?_)))); all_goals ((repeat ((conv => whnf); first | refine brT ?_ | refine brF ?_)); conv => whnf))
  all_goals exact ⟨rfl, by (simp_all [notB, eqI_d]) <;> (split <;> rfl), List.nodup_nil⟩
end Go.Proofs.YtbiagkccgijdlaaGreat


namespace Go.Proofs.YtbiagkccgijdlaaGreat
open Go.Lg Go.Pm
set_option maxHeartbeats 3200000
set_option maxRecDepth 10000
set_option linter.unusedVariables false
set_option linter.unusedSimpArgs false

def sucW (ps : List Per) (us : List Uni) (x : Cus) (p y : Int) : List Nat := match cusOk x with
  | false => []
  | true => match hasP ps us p with
    | false => []
    | true => upwO ps x y (insP noI p.toNat) (ps.length + 1) p []
theorem suc_len {ps : List Per} (hp : parsIn ps) (x : Cus) (y : Int) (I : Nat → Bool) (d : Nat) {p : Int} (pl : p < ps.length) : (upwO ps x y I d p []).length ≤ ps.length := by
  obtain ⟨h1, h2⟩ := upwO_ok hp x y I d p [] pl List.nodup_nil (fun z hz => by simp at hz)
  exact nodup_lt _ _ h1 h2
theorem sucW_len (ps : List Per) (us : List Uni) (x : Cus) (p y : Int) : (sucW ps us x p y).length ≤ 80 := by
  unfold sucW
  cases cusOk x
  · simp
  · cases h : hasP ps us p
    · simp
    · obtain ⟨p0, pl, hl, hp⟩ := hasP_in h
      have := suc_len hp x y (insP noI p.toNat) (ps.length + 1) (p := p) (by omega)
      simp only
      omega
theorem succ_h {ps : List Per} {us : List Uni} (hf : famOk ps us = true) (x : Cus) (p : Nat) (y : Int) (hpl : p < ps.length) :
    HSpec env.P 30 [famLV ps us, x.lv, .int .i64 (p : Int), .int .i64 y] [] (.hs 0 ((upwO ps x y (insP noI p) (ps.length + 1) (p : Int) []).map natLV).length) [.arr 3 1 ((upwO ps x y (insP noI p) (ps.length + 1) (p : Int) []).map natLV)] := by
  refine HSpec_of_code (E := { env.x [56] 0 with tb := [99] }) (env_ok.x.tbs _) (fn := Tryz.f30) Tryz.func30 rfl Tryz.call30 _ _ _ _ ?_
  have h40 := fam_40 hf
  have hpar := fam_pi hf
  have hS := setOf_spec [(p : Int)] (fun b hb => by simp at hb; omega) (by show 1 ≤ _; unfold Go.maxLen; omega)
  rw [setOne hpl] at hS
  rw [← up_eq hpar x y p (ps.length + 1) (p : Int) (insP noI p, []) (by omega) (UpOk.start x y p)]
  have hU : UpOk ps x y p (p : Int) (insP noI p, []) := UpOk.start x y p
  generalize hR : upI ps x y (ps.length + 1) (p : Int) (insP noI p, []) = R
  unfold famLV Cus.lv uLV at *
  ((repeat ((conv => whnf); first | refine brT ?_ | refine brF ?_)); conv => whnf)
  refine ⟨false, 0, 0, 1, [0, 1, 2, 3], (.alt 4 (.alt 5 (.alt 6 (.one 7 (.one 8 .done)) (.one 7 (.one 6 (.one 8 .done)))) (.one 7 (.one 5 (.one 6 (.one 8 .done))))) (.one 7 (.one 4 (.one 5 (.one 6 (.one 8 .done)))))), by kernel_rfl, by kernel_rfl, ?_⟩
  ((repeat ((conv => whnf); first | refine brT ?_ | refine brF ?_)); conv => whnf)
  apply Exists.intro
  apply Exists.intro
  refine And.intro ?_ ?_
  · ((repeat ((conv => whnf); first | refine brT ?_ | refine brF ?_)); conv => whnf)
    refine And.intro ?_ ?_
    · ((repeat ((conv => whnf); first | refine brT ?_ | refine brF ?_)); conv => whnf)
      refine And.intro ?_ ?_
      · ((repeat ((conv => whnf); first | refine brT ?_ | refine brF ?_)); conv => whnf)
        refine ⟨rfl, ?_⟩
        ((repeat ((conv => whnf); first | refine brT ?_ | refine brF ?_)); conv => whnf)
        refine ⟨_, hS, ?_⟩
        ((repeat ((conv => whnf); first | refine brT ?_ | refine brF ?_)); conv => whnf)
        refine And.intro ?_ ?_
        · ((repeat ((conv => whnf); first | refine brT ?_ | refine brF ?_)); conv => whnf)
          refine Weak.idn ?_ ?_ rfl
          · ((repeat ((conv => whnf); refine ⟨rfl, ?_⟩)); trivial)
          · exact ⟨rfl, rfl, rfl, rfl, trivial⟩
        · ((repeat ((conv => whnf); first | refine brT ?_ | refine brF ?_)); conv => whnf)
          refine .inr ⟨[.old 0, .old 1, .old 2, .old 3], ?_, ⟨rfl, rfl, rfl, rfl, rfl, rfl, rfl, rfl, trivial⟩, rfl⟩
          ((repeat ((conv => whnf); refine ⟨rfl, rfl, ?_⟩)); trivial)
      · ((repeat ((conv => whnf); first | refine brT ?_ | refine brF ?_)); conv => whnf)
        refine ⟨rfl, ?_⟩
        ((repeat ((conv => whnf); first | refine brT ?_ | refine brF ?_)); conv => whnf)
        refine ⟨_, hS, ?_⟩
        ((repeat ((conv => whnf); first | refine brT ?_ | refine brF ?_)); conv => whnf)
        refine .inr ⟨[.old 0, .old 1, .old 2, .old 3], ?_, ⟨rfl, rfl, rfl, rfl, rfl, rfl, rfl, rfl, trivial⟩, rfl⟩
        ((repeat ((conv => whnf); refine ⟨rfl, rfl, ?_⟩)); trivial)
    · ((repeat ((conv => whnf); first | refine brT ?_ | refine brF ?_)); conv => whnf)
      refine ⟨rfl, ?_⟩
      ((repeat ((conv => whnf); first | refine brT ?_ | refine brF ?_)); conv => whnf)
      refine ⟨_, hS, ?_⟩
      ((repeat ((conv => whnf); first | refine brT ?_ | refine brF ?_)); conv => whnf)
      refine .inr ⟨[.old 0, .old 1, .old 3, .old 2], ?_, ⟨rfl, rfl, rfl, rfl, rfl, rfl, rfl, rfl, trivial⟩, rfl⟩
      ((repeat ((conv => whnf); refine ⟨rfl, rfl, ?_⟩)); trivial)
  ((repeat ((conv => whnf); first | refine brT ?_ | refine brF ?_)); conv => whnf)
  refine ⟨rfl, rfl, _, _, _, rfl, rfl, rfl, rfl, ?_⟩
  ((repeat ((conv => whnf); first | refine brT ?_ | refine brF ?_)); conv => whnf)
  refine loop_ruleN (α := Nat × Int × ((Nat → Bool) × List Nat)) [.row 3 [0, 4] 3 1] [.old 0, .old 1, .old 2, .old 3] (fun s => [(10, .int .i64 s.2.1)])
    (fun s => [.box (famLV ps us), .box x.lv, .arr 3 1 [.int .i64 (p : Int)], .tree 99 8 [sucLV ps us x y s.2.2]]) (fun s => s.1)
    (fun s => upI ps x y s.1 s.2.1 s.2.2 = R ∧ UpOk ps x y p s.2.1 s.2.2 ∧ s.2.1 < (s.1 : Int) ∧ -1 ≤ s.2.1 ∧ s.2.1 < (ps.length : Int)) (ps.length + 1, (p : Int), (insP noI p, [])) ⟨hR, hU, by simp only; omega, by simp only; omega, by simp only; omega⟩ ?_ ?_
  · refine ⟨?_, ⟨rfl, rfl, rfl, rfl, rfl, rfl, rfl, rfl, trivial⟩, rfl⟩
    ((repeat ((conv => whnf); refine ⟨rfl, rfl, ?_⟩)); trivial)
  rintro ⟨d, q, S⟩ ⟨i1, i2, i3, i4, i5⟩
  simp only at i1 i2 i3 i4 i5
  generalize hK : kk _ = KK
  unfold famLV Cus.lv
  ((repeat ((conv => whnf); first | refine brT ?_ | refine brF ?_)); conv => whnf)
  cases e0 : eqI q (-1)
  · rw [show notB false = true by simp [notB]]
    rw [eqI_f] at e0
    obtain ⟨m, rfl⟩ : ∃ m : Nat, q = (m : Int) := ⟨q.toNat, by omega⟩
    obtain ⟨d, rfl⟩ : ∃ d' : Nat, d = d' + 1 := ⟨d - 1, by omega⟩
    have hml : m < ps.length := by omega
    obtain ⟨u1, u2⟩ := i2.step hpar (by omega) (by omega)
    have hn := nxt_lt hpar (pr := x.prefer) (q := (m : Int)) (by omega) (by omega)
    have hst : upI ps x y d (nxt ps x.prefer (m : Int)) (addI ps x y ps.length m S) = R := by
      rw [← i1]
      show _ = upI ps x y (d + 1) (m : Int) S
      rw [upI, show leI 0 (m : Int) = true by rw [leI_t]; omega]
      rfl
    have hB := addBelow_h hf x y (insP noI p) ps.length m (by omega) hml S i2.ok fun m' hm hqm => by
      rcases i2.cl m' hm with ⟨_, h⟩ | ⟨rfl, h⟩
      · exact h
      · omega
    have hg : (ps.map Per.lv)[m]? = some ps[m].lv := by simp [hml]
    have hnx : nxt ps x.prefer (m : Int) = nxtP x.prefer ps[m] := by simp [nxt, hml]
    have hN := nextUp_spec ps[m] x.prefer
    rw [← hnx] at hN
    clear hnx
    generalize ps[m] = z at hg hN
    obtain ⟨nm, sx, fa, mo, bo, di⟩ := z
    unfold sucLV famLV Cus.lv uLV at hB ⊢
    ((repeat ((conv => whnf); first | refine brT ?_ | refine brF ?_)); conv => whnf)
    refine ⟨[3], _, _, _, _, hB, rfl, rfl, rfl, trivial, ?_⟩
    ((repeat ((conv => whnf); first | refine brT ?_ | refine brF ?_)); conv => whnf)
    refine ⟨true, by kernel_rfl, ?_⟩
    ((repeat ((conv => whnf); first | refine brT ?_ | refine brF ?_)); conv => whnf)
    refine ⟨m, _, rfl, hg, rfl, ?_⟩
    ((repeat ((conv => whnf); first | refine brT ?_ | refine brF ?_)); conv => whnf)
    refine ⟨_, hN, ?_⟩
    ((repeat ((conv => whnf); first | refine brT ?_ | refine brF ?_)); conv => whnf)
    subst hK
    refine round_endR [.old 0, .old 1, .old 2, .old 3] (d, nxt ps x.prefer (m : Int), addI ps x y ps.length m S) ⟨hst, u1, by simp only; omega, by simp only; omega, by simp only; omega⟩ (by simp only; omega) ⟨?_, ⟨rfl, rfl, rfl, rfl, rfl, rfl, rfl, rfl, trivial⟩, rfl⟩
    ((repeat ((conv => whnf); refine ⟨rfl, rfl, ?_⟩)); trivial)
  · rw [show notB true = false by simp [notB]]
    rw [eqI_t] at e0
    subst e0
    have hS : S = R := by
      rw [← i1]
      cases d with
      | zero => rfl
      | succ d => rw [upI, show leI 0 (-1) = false by rw [leI_f]; omega]
    subst hS
    subst hK
    unfold sucLV famLV Cus.lv uLV
    ((repeat ((conv => whnf); first | refine brT ?_ | refine brF ?_)); conv => whnf)
    refine ⟨rfl, by simp, _, rfl, rfl, by simp, ?_⟩
    ((repeat ((conv => whnf); first | refine brT ?_ | refine brF ?_)); conv => whnf)
    refine ⟨rfl, _, _, rfl, rfl, ?_⟩
    ((repeat ((conv => whnf); first | refine brT ?_ | refine brF ?_)); conv => whnf)
    exact ⟨[.hs 0 (S.2.map natLV).length], rfl, rfl, .inr ⟨[.old 4], ⟨rfl, rfl, trivial⟩, ⟨rfl, rfl, trivial⟩, rfl⟩⟩
end Go.Proofs.YtbiagkccgijdlaaGreat


namespace Go.Proofs.YtbiagkccgijdlaaGreat
open Go.Lg Go.Pm
set_option maxHeartbeats 3200000
set_option maxRecDepth 10000
set_option linter.unusedVariables false
set_option linter.unusedSimpArgs false

theorem suc_spec (ps : List Per) (us : List Uni) (x : Cus) (p y : Int) : HSpec env.P 49 [famLV ps us, x.lv, .int .i64 p, .int .i64 y] [] (.hs 0 ((sucW ps us x p y).map natLV).length) [.arr 3 1 ((sucW ps us x p y).map natLV)] := by
  refine HSpec_of_code (E := env.x [75] 0) env_ok.x (fn := Tryz.f49) Tryz.func49 rfl Tryz.call49 _ _ _ _ ?_
  have h1 := cus_spec x
  have hP' : (ps.map Per.lv).length = ps.length := List.length_map ..
  unfold sucW
  generalize cusOk x = b at h1 ⊢
  unfold famLV Cus.lv at *
  ((repeat ((conv => whnf); first | refine brT ?_ | refine brF ?_)); conv => whnf)
  refine ⟨_, h1, ?_⟩
  ((repeat ((conv => whnf); first | refine brT ?_ | refine brF ?_)); conv => whnf)
  cases b
  · rw [show notB false = true by simp [notB]]
    ((repeat ((conv => whnf); first | refine brT ?_ | refine brF ?_)); conv => whnf)
    exact ⟨[.hs 0 0], rfl, rfl, .nl [.tmp 0 [] false 3 1] [.old 2] ⟨⟨rfl, rfl, trivial⟩, ⟨rfl, rfl, trivial⟩, rfl⟩⟩
  rw [show notB true = false by simp [notB]]
  ((repeat ((conv => whnf); first | refine brT ?_ | refine brF ?_)); conv => whnf)
  have hP := l1Has_spec ps us p
  unfold famLV at hP
  refine ⟨_, hP, ?_⟩
  ((repeat ((conv => whnf); first | refine brT ?_ | refine brF ?_)); conv => whnf)
  cases h : hasP ps us p
  · rw [show notB false = true by simp [notB]]
    ((repeat ((conv => whnf); first | refine brT ?_ | refine brF ?_)); conv => whnf)
    exact ⟨[.hs 0 0], rfl, rfl, .nl [.tmp 0 [] false 3 1] [.old 2] ⟨⟨rfl, rfl, trivial⟩, ⟨rfl, rfl, trivial⟩, rfl⟩⟩
  rw [show notB true = false by simp [notB]]
  obtain ⟨p0, pl, h40, hpar⟩ := hasP_in h
  have hf := (hasP_lt h).2.2
  obtain ⟨m, rfl⟩ : ∃ m : Nat, p = (m : Int) := ⟨p.toNat, by omega⟩
  rw [show ((m : Int)).toNat = m from rfl] at pl
  generalize hR : upwO ps x y (insP noI ((m : Int)).toNat) (ps.length + 1) (m : Int) [] = R
  rw [show ((m : Int)).toNat = m from rfl] at hR
  have hs0 : (List.replicate ps.length (LV.bool false)).set m (.bool true) = mkL ps.length (seenB (insP noI m) []) := by
    rw [← mkL_none]
    exact mkL_set fun j _ => by simp [seenB, insP, noI]
  have hrep : (List.replicate ps.length (LV.bool false)).length = ps.length := List.length_replicate
  have hgm : (List.replicate ps.length (LV.bool false))[m]? = some (.bool false) := by simp [pl]
  ((repeat ((conv => whnf); first | refine brT ?_ | refine brF ?_)); conv => whnf)
  intro _
  rw [hP']
  ((repeat ((conv => whnf); first | refine brT ?_ | refine brF ?_)); conv => whnf)
  refine ⟨ps.length, rfl, rfl, by show 1 * ps.length ≤ _; omega, by unfold Go.maxLen; omega, rfl, by decide, ?_⟩
  ((repeat ((conv => whnf); first | refine brT ?_ | refine brF ?_)); conv => whnf)
  refine ⟨hrep.symm, rfl, m, rfl, by omega, ?_⟩
  ((repeat ((conv => whnf); first | refine brT ?_ | refine brF ?_)); conv => whnf)
  refine ⟨hrep.symm, m, [], _, rfl, getP1 hgm, rfl, rfl, rfl, mkL ps.length (seenB (insP noI m) []), by rw [hgm]; exact hs0, ?_⟩
  ((repeat ((conv => whnf); first | refine brT ?_ | refine brF ?_)); conv => whnf)
  refine loop_ruleR (α := Nat × Int × List Nat) [.old 0, .old 1, .old 2, .old 3] (fun s => [(11, .int .i64 s.2.1), (28, .undef), (10, .hs 3 (s.2.2.map natLV).length)])
    (fun s => [.box (famLV ps us), .box x.lv, .arr 4 1 (mkL ps.length (seenB (insP noI m) s.2.2)), .arr 3 1 (s.2.2.map natLV)]) (fun s => s.1)
    (fun s => upwO ps x y (insP noI m) s.1 s.2.1 s.2.2 = R ∧ s.2.2.Nodup ∧ (∀ z ∈ s.2.2, z < ps.length) ∧ s.2.1 < (s.1 : Int) ∧ -1 ≤ s.2.1 ∧ s.2.1 < (ps.length : Int)) (ps.length + 1, (m : Int), []) ⟨hR, List.nodup_nil, fun z hz => by simp at hz, by simp only; omega, by simp only; omega, by simp only; omega⟩ ?_ ?_
  · refine ⟨?_, ⟨rfl, rfl, rfl, rfl, rfl, rfl, rfl, rfl, trivial⟩, rfl⟩
    ((repeat ((conv => whnf); refine ⟨rfl, rfl, ?_⟩)); trivial)
  rintro ⟨d, q, out⟩ ⟨i1, i2, i2', i3, i4, i5⟩
  simp only at i1 i2 i2' i3 i4 i5
  generalize hK : kk _ = KK
  unfold famLV Cus.lv
  ((repeat ((conv => whnf); first | refine brT ?_ | refine brF ?_)); conv => whnf)
  cases e0 : leI 0 q
  · rw [leI_f] at e0
    have hS : out = R := by
      rw [← i1]
      cases d with
      | zero => rfl
      | succ d => rw [upwO, show leI 0 q = false by rw [leI_f]; omega]
    subst hS
    subst hK
    ((repeat ((conv => whnf); first | refine brT ?_ | refine brF ?_)); conv => whnf)
    exact ⟨[.hs 0 (out.map natLV).length], rfl, rfl, .inr ⟨[.old 3], ⟨rfl, rfl, trivial⟩, ⟨rfl, rfl, trivial⟩, rfl⟩⟩
  · rw [leI_t] at e0
    obtain ⟨k, rfl⟩ : ∃ k : Nat, q = (k : Int) := ⟨q.toNat, by omega⟩
    obtain ⟨d, rfl⟩ : ∃ d' : Nat, d = d' + 1 := ⟨d - 1, by omega⟩
    have hkl : k < ps.length := by omega
    have hn := nxt_lt hpar (pr := x.prefer) (q := (k : Int)) (by omega) (by omega)
    have hst : upwO ps x y (insP noI m) d (nxt ps x.prefer (k : Int)) (fldO (insP noI m) out (desN ps x y k)) = R := by
      rw [← i1]
      show _ = upwO ps x y (insP noI m) (d + 1) (k : Int) out
      rw [upwO, show leI 0 (k : Int) = true by rw [leI_t]; omega]
      rfl
    have hB := below_h hf x y (insP noI m) ps.length k (by omega) hkl out i2 i2'
    have hN := next_spec ps us x k hpar hkl
    unfold famLV Cus.lv at hB hN
    ((repeat ((conv => whnf); first | refine brT ?_ | refine brF ?_)); conv => whnf)
    refine ⟨[2, 3], _, _, _, _, hB, rfl, rfl, rfl, trivial, ?_⟩
    ((repeat ((conv => whnf); first | refine brT ?_ | refine brF ?_)); conv => whnf)
    refine ⟨_, hN, ?_⟩
    ((repeat ((conv => whnf); first | refine brT ?_ | refine brF ?_)); conv => whnf)
    subst hK
    refine round_endR [.old 0, .old 1, .old 2, .old 4] (d, nxt ps x.prefer (k : Int), fldO (insP noI m) out (desN ps x y k))
      ⟨hst, fldO_nodup _ _ _ i2, fldO_lt i2' fun z hz => (desN_mem hpar x y ps.length k (by omega) z hz).2.1, by simp only; omega, by simp only; omega, by simp only; omega⟩ (by simp only; omega) ⟨?_, ⟨rfl, rfl, rfl, rfl, rfl, rfl, rfl, rfl, trivial⟩, rfl⟩
    ((repeat ((conv => whnf); refine ⟨rfl, rfl, ?_⟩)); trivial)
end Go.Proofs.YtbiagkccgijdlaaGreat
