/- Contracts of functions of the program and of its model, told over readings. -/
import Derived.Test.YtdppjbiphekgjaaBPF
namespace Go.Proofs.Ytdppjbiphekgjaa
open Go.Lg
set_option maxHeartbeats 3200000
set_option maxRecDepth 10000
set_option linter.unusedVariables false
set_option linter.unusedSimpArgs false

theorem rename_impl (ps : List Per) (us : List Uni) (bs : List ByteArray) (hp : ps.length ≤ 1048576) (hu : us.length ≤ 1048576) : HSpec env.P 44 [famLV ps us, strsLV bs] [] (rnHS ps us bs) [.arr 102 6 ((rnP ps us bs).map Per.lv), .arr 131 4 ((rnU ps us bs).map Uni.lv)] := by
  refine HSpec_of_code (E := env.x [105, 106, 107] 0) env_ok.x (fn := Try.f44) Try.func44 rfl Try.call44 _ _ _ _ ?_
  have eb : (bs.map strLV).length = bs.length := List.length_map ..
  have ep : (ps.map Per.lv).length = ps.length := List.length_map ..
  ((repeat ((conv => whnf); first | refine brT ?_ | refine brF ?_)); conv => whnf)
  refine ⟨_, isFamily_impl ps us, ?_⟩
  ((repeat ((conv => whnf); first | refine brT ?_ | refine brF ?_)); conv => whnf)
  (refine ⟨fun h1 => ?_, fun h1 => ?_⟩ <;> rw [h1])
  · rw [notB_t] at h1
    have hno := rn_no (ps := ps) (us := us) (bs := bs) (by unfold okRN; rw [h1]; rfl)
    rw [hno.2.1, hno.2.2.1, hno.2.2.2]
    ((repeat ((conv => whnf); first | refine brT ?_ | refine brF ?_)); conv => whnf)
    exact ⟨[famHS 0 0, .bool false], rfl, rfl, .nl [.tmp 0 [0] false 102 6, .tmp 0 [1] false 131 4] [.old 2, .old 3] ⟨⟨rfl, rfl, rfl, rfl, trivial⟩, ⟨rfl, rfl, rfl, rfl, trivial⟩, rfl⟩⟩
  rw [notB_f] at h1
  ((repeat ((conv => whnf); first | refine brT ?_ | refine brF ?_)); conv => whnf)
  intro hb
  ((repeat ((conv => whnf); first | refine brT ?_ | refine brF ?_)); conv => whnf)
  intro hq
  ((repeat ((conv => whnf); first | refine brT ?_ | refine brF ?_)); conv => whnf)
  rw [eb, ep]
  (refine ⟨fun h2 => ?_, fun h2 => ?_⟩ <;> rw [h2])
  · rw [notB_t] at h2
    have hno := rn_no (ps := ps) (us := us) (bs := bs) (by unfold okRN; rw [h2]; simp)
    rw [hno.2.1, hno.2.2.1, hno.2.2.2]
    ((repeat ((conv => whnf); first | refine brT ?_ | refine brF ?_)); conv => whnf)
    exact ⟨[famHS 0 0, .bool false], rfl, rfl, .nl [.tmp 0 [0] false 102 6, .tmp 0 [1] false 131 4] [.old 2, .old 3] ⟨⟨rfl, rfl, rfl, rfl, trivial⟩, ⟨rfl, rfl, rfl, rfl, trivial⟩, rfl⟩⟩
  rw [notB_f] at h2
  have hlen : bs.length = ps.length := by rw [eqI_t] at h2; omega
  have hb' : bs.length ≤ Go.maxLen := by rw [← eb]; exact hb
  ((repeat ((conv => whnf); first | refine brT ?_ | refine brF ?_)); conv => whnf)
  refine ⟨false, 0, 0, 0, [0, 1, 3, 4], (.alt 2 (.alt 5 (.alt 6 (.one 7 (.one 8 .done)) (.one 7 (.one 6 (.one 8 .done)))) (.one 7 (.one 5 (.one 6 (.one 8 .done))))) (.one 7 (.one 2 (.one 5 (.one 6 (.one 8 .done)))))), by kernel_rfl, ?_⟩
  ((repeat ((conv => whnf); first | refine brT ?_ | refine brF ?_)); conv => whnf)
  apply Exists.intro
  apply Exists.intro
  refine And.intro ?_ ?_
  · refine And.intro ?_ ?_
    · refine ⟨_, _, _, _, clonePer_h ps hp, rfl, rfl, rfl, trivial, ?_⟩
      ((repeat ((conv => whnf); first | refine brT ?_ | refine brF ?_)); conv => whnf)
      refine And.intro ?_ ?_
      · refine ⟨_, _, _, _, cloneUni_h us hu, rfl, rfl, rfl, trivial, ?_⟩
        ((repeat ((conv => whnf); first | refine brT ?_ | refine brF ?_)); conv => whnf)
        refine And.intro ?_ ?_
        · ((repeat ((conv => whnf); first | refine brT ?_ | refine brF ?_)); conv => whnf)
          refine WeakS.idn ?_ ?_ rfl
          · ((repeat ((conv => whnf); refine ⟨rfl, ?_⟩)); trivial)
          · exact ⟨rfl, rfl, rfl, rfl, rfl, trivial⟩
        · ((repeat ((conv => whnf); first | refine brT ?_ | refine brF ?_)); conv => whnf)
          refine .inr ⟨[.old 0, .old 1, .old 2, .old 3, .old 4], ?_, ⟨rfl, rfl, rfl, rfl, rfl, rfl, rfl, rfl, rfl, rfl, trivial⟩, rfl⟩
          ((repeat ((conv => whnf); refine ⟨rfl, rfl, ?_⟩)); trivial)
      · ((repeat ((conv => whnf); first | refine brT ?_ | refine brF ?_)); conv => whnf)
        refine ⟨_, _, _, _, cloneUni_h us hu, rfl, rfl, rfl, trivial, ?_⟩
        ((repeat ((conv => whnf); first | refine brT ?_ | refine brF ?_)); conv => whnf)
        refine .inr ⟨[.old 0, .old 1, .old 2, .old 4, .old 3], ?_, ⟨rfl, rfl, rfl, rfl, rfl, rfl, rfl, rfl, rfl, rfl, trivial⟩, rfl⟩
        ((repeat ((conv => whnf); refine ⟨rfl, rfl, ?_⟩)); trivial)
    · ((repeat ((conv => whnf); first | refine brT ?_ | refine brF ?_)); conv => whnf)
      refine ⟨_, _, _, _, clonePer_h ps hp, rfl, rfl, rfl, trivial, ?_⟩
      ((repeat ((conv => whnf); first | refine brT ?_ | refine brF ?_)); conv => whnf)
      refine ⟨_, _, _, _, cloneUni_h us hu, rfl, rfl, rfl, trivial, ?_⟩
      ((repeat ((conv => whnf); first | refine brT ?_ | refine brF ?_)); conv => whnf)
      refine .inr ⟨[.old 0, .old 1, .old 3, .old 4, .old 2], ?_, ⟨rfl, rfl, rfl, rfl, rfl, rfl, rfl, rfl, rfl, rfl, trivial⟩, rfl⟩
      ((repeat ((conv => whnf); refine ⟨rfl, rfl, ?_⟩)); trivial)
  ((repeat ((conv => whnf); first | refine brT ?_ | refine brF ?_)); conv => whnf)
  intro _
  ((repeat ((conv => whnf); first | refine brT ?_ | refine brF ?_)); conv => whnf)
  rw [eb]
  refine loop_rule (α := Nat) (fun k => [(30, .int .i64 (k : Int))]) (fun k => [.box (famLV ps us), .box (.st [.nil, .nil]), .arr 102 6 (rowRN ps bs k), .arr 131 4 (us.map Uni.lv), .box (.st [.hs 2 (ps.map Per.lv).length, .hs 3 (us.map Uni.lv).length])]) (fun k => bs.length - k) (fun k => k ≤ bs.length) 0 (Nat.zero_le _) ?_ ?_
  · refine ⟨?_, ⟨rfl, rfl, congrArg (Blk.arr 102 6) (rowRN_zero ps bs).symm, rfl, rfl, trivial⟩, rfl, rfl⟩
    ((repeat ((conv => whnf); refine ⟨rfl, ?_⟩)); trivial)
  intro k hk
  ((repeat ((conv => whnf); first | refine brT ?_ | refine brF ?_)); conv => whnf)
  (refine ⟨fun g1 => ?_, fun g1 => ?_⟩ <;> rw [g1])
  · have hltb : k < bs.length := by rw [ltI_t] at g1; omega
    have hlt : k < ps.length := by omega
    have e := step_i hltb hb'
    have hL := rowRN_len hlen (Nat.le_of_lt hlt)
    have hg := rowRN_get hlen hlt
    have hset := rowRN_set hlen hlt
    ((repeat ((conv => whnf); first | refine brT ?_ | refine brF ?_)); conv => whnf)
    refine ⟨k, strLV bs[k], rfl, by simp [hltb], rfl, ?_⟩
    have hkL : k < (rowRN ps bs k).length := by omega
    have hfin : (rowRN ps bs k).set k (.st [.str bs[k], .int .i64 ps[k].sex, .int .i64 ps[k].father, .int .i64 ps[k].mother, .int .i64 ps[k].born, .int .i64 ps[k].died]) = rowRN ps bs (k + 1) := hset
    have eL : (ps.map Per.lv).length = (rowRN ps bs k).length := by rw [hL, ep]
    have hgp : getP (.st (rowRN ps bs k)) [k] = some (.st [LV.str ps[k].name, LV.int .i64 ps[k].sex, LV.int .i64 ps[k].father, LV.int .i64 ps[k].mother, LV.int .i64 ps[k].born, LV.int .i64 ps[k].died]) := by simp [getP, hg, Per.lv]
    have hgp0 : getP (.st (rowRN ps bs k)) [k, 0] = some (.str ps[k].name) := by simp [getP, hg, Per.lv]
    ((repeat ((conv => whnf); first | refine brT ?_ | refine brF ?_)); conv => whnf)
    refine ⟨eL, rfl, k, rfl, hkL, ?_⟩
    ((repeat ((conv => whnf); first | refine brT ?_ | refine brF ?_)); conv => whnf)
    refine ⟨eL, by simp, [LV.str ps[k].name, LV.int .i64 ps[k].sex, LV.int .i64 ps[k].father, LV.int .i64 ps[k].mother, LV.int .i64 ps[k].born, LV.int .i64 ps[k].died], hgp, rfl, by simp, ?_⟩
    ((repeat ((conv => whnf); first | refine brT ?_ | refine brF ?_)); conv => whnf)
    refine ⟨eL, k, [0], .str ps[k].name, rfl, hgp0, rfl, rfl, rfl, rowRN ps bs (k + 1), by rw [hg]; exact hfin, ?_⟩
    ((repeat ((conv => whnf); first | refine brT ?_ | refine brF ?_)); conv => whnf)
    refine round_end (k + 1) hltb (by omega) ⟨?_, ⟨rfl, rfl, rfl, rfl, rfl, trivial⟩, rfl, rfl⟩
    ((repeat ((conv => whnf); first | refine ⟨e, ?_⟩ | refine ⟨rfl, ?_⟩)); trivial)
  · have h3 : k = ps.length := by rw [ltI_f] at g1; omega
    subst h3
    rw [rowRN_all hlen]
    have er : ((renPers ps bs).map Per.lv).length = (ps.map Per.lv).length := by rw [List.length_map, renPers_len hlen, ep]
    rw [← er]
    ((repeat ((conv => whnf); first | refine brT ?_ | refine brF ?_)); conv => whnf)
    cases g2 : famOk (renPers ps bs) us
    · refine ⟨[2, 3], _, _, _, _, validFamily_no (renPers ps bs) us g2, rfl, rfl, rfl, trivial, ?_⟩
      ((repeat ((conv => whnf); first | refine brT ?_ | refine brF ?_)); conv => whnf)
      have hno := rn_no (ps := ps) (us := us) (bs := bs) (by unfold okRN; rw [g2]; simp)
      rw [hno.2.1, hno.2.2.1, hno.2.2.2]
      ((repeat ((conv => whnf); first | refine brT ?_ | refine brF ?_)); conv => whnf)
      exact ⟨[famHS 0 0, .bool false], rfl, rfl, .nl [.tmp 0 [0] false 102 6, .tmp 0 [1] false 131 4] [.old 5, .old 6] ⟨⟨rfl, rfl, rfl, rfl, trivial⟩, ⟨rfl, rfl, rfl, rfl, trivial⟩, rfl⟩⟩
    · refine ⟨[2, 3], _, _, _, _, validFamily_yes (renPers ps bs) us g2, rfl, rfl, rfl, trivial, ?_⟩
      ((repeat ((conv => whnf); first | refine brT ?_ | refine brF ?_)); conv => whnf)
      have hyes := rn_yes (ps := ps) (us := us) (bs := bs) (by unfold okRN; rw [g2, h1, h2]; rfl)
      rw [hyes.2.1, hyes.2.2.1, hyes.2.2.2]
      ((repeat ((conv => whnf); first | refine brT ?_ | refine brF ?_)); conv => whnf)
      exact ⟨[famHS ((renPers ps bs).map Per.lv).length (us.map Uni.lv).length, .bool true], rfl, rfl, .inr ⟨[.old 2, .old 3], ⟨rfl, rfl, rfl, rfl, trivial⟩, ⟨rfl, rfl, rfl, rfl, trivial⟩, rfl⟩⟩
theorem rename_impl_f (ps : List Per) (us : List Uni) (bs : List ByteArray) (hp : ps.length ≤ 1048576) (hu : us.length ≤ 1048576) : FSpec env.P 44 [famLV ps us, strsLV bs] (rnLV ps us bs) := by
  refine FSpec_of_code (E := env.x [105, 106, 107] 0) env_ok.x (fn := Try.f44) Try.func44 rfl Try.call44 _ _ ?_
  have eb : (bs.map strLV).length = bs.length := List.length_map ..
  have ep : (ps.map Per.lv).length = ps.length := List.length_map ..
  ((repeat ((conv => whnf); first | refine brT ?_ | refine brF ?_)); conv => whnf)
  refine ⟨_, isFamily_impl ps us, ?_⟩
  ((repeat ((conv => whnf); first | refine brT ?_ | refine brF ?_)); conv => whnf)
  (refine ⟨fun h1 => ?_, fun h1 => ?_⟩ <;> rw [h1])
  · rw [notB_t] at h1
    rw [(rn_no (ps := ps) (us := us) (bs := bs) (by unfold okRN; rw [h1]; rfl)).1]
    ((repeat ((conv => whnf); first | refine brT ?_ | refine brF ?_)); conv => whnf)
    exact ⟨_, rfl, rfl, by decide, rfl, by decide, rfl, rfl, List.nodup_nil⟩
  rw [notB_f] at h1
  ((repeat ((conv => whnf); first | refine brT ?_ | refine brF ?_)); conv => whnf)
  intro hb
  ((repeat ((conv => whnf); first | refine brT ?_ | refine brF ?_)); conv => whnf)
  intro hq
  ((repeat ((conv => whnf); first | refine brT ?_ | refine brF ?_)); conv => whnf)
  rw [eb, ep]
  (refine ⟨fun h2 => ?_, fun h2 => ?_⟩ <;> rw [h2])
  · rw [notB_t] at h2
    rw [(rn_no (ps := ps) (us := us) (bs := bs) (by unfold okRN; rw [h2]; simp)).1]
    ((repeat ((conv => whnf); first | refine brT ?_ | refine brF ?_)); conv => whnf)
    exact ⟨_, rfl, rfl, by decide, rfl, by decide, rfl, rfl, List.nodup_nil⟩
  rw [notB_f] at h2
  have hlen : bs.length = ps.length := by rw [eqI_t] at h2; omega
  have hb' : bs.length ≤ Go.maxLen := by rw [← eb]; exact hb
  ((repeat ((conv => whnf); first | refine brT ?_ | refine brF ?_)); conv => whnf)
  refine ⟨false, 0, 0, 0, [0, 1, 3, 4], (.alt 2 (.alt 5 (.alt 6 (.one 7 (.one 8 .done)) (.one 7 (.one 6 (.one 8 .done)))) (.one 7 (.one 5 (.one 6 (.one 8 .done))))) (.one 7 (.one 2 (.one 5 (.one 6 (.one 8 .done)))))), by kernel_rfl, ?_⟩
  ((repeat ((conv => whnf); first | refine brT ?_ | refine brF ?_)); conv => whnf)
  apply Exists.intro
  apply Exists.intro
  refine And.intro ?_ ?_
  · refine And.intro ?_ ?_
    · refine ⟨_, _, _, _, clonePer_h ps hp, rfl, rfl, rfl, trivial, ?_⟩
      ((repeat ((conv => whnf); first | refine brT ?_ | refine brF ?_)); conv => whnf)
      refine And.intro ?_ ?_
      · refine ⟨_, _, _, _, cloneUni_h us hu, rfl, rfl, rfl, trivial, ?_⟩
        ((repeat ((conv => whnf); first | refine brT ?_ | refine brF ?_)); conv => whnf)
        refine And.intro ?_ ?_
        · ((repeat ((conv => whnf); first | refine brT ?_ | refine brF ?_)); conv => whnf)
          refine WeakS.idn ?_ ?_ rfl
          · ((repeat ((conv => whnf); refine ⟨rfl, ?_⟩)); trivial)
          · exact ⟨rfl, rfl, rfl, rfl, rfl, trivial⟩
        · ((repeat ((conv => whnf); first | refine brT ?_ | refine brF ?_)); conv => whnf)
          refine .inr ⟨[.old 0, .old 1, .old 2, .old 3, .old 4], ?_, ⟨rfl, rfl, rfl, rfl, rfl, rfl, rfl, rfl, rfl, rfl, trivial⟩, rfl⟩
          ((repeat ((conv => whnf); refine ⟨rfl, rfl, ?_⟩)); trivial)
      · ((repeat ((conv => whnf); first | refine brT ?_ | refine brF ?_)); conv => whnf)
        refine ⟨_, _, _, _, cloneUni_h us hu, rfl, rfl, rfl, trivial, ?_⟩
        ((repeat ((conv => whnf); first | refine brT ?_ | refine brF ?_)); conv => whnf)
        refine .inr ⟨[.old 0, .old 1, .old 2, .old 4, .old 3], ?_, ⟨rfl, rfl, rfl, rfl, rfl, rfl, rfl, rfl, rfl, rfl, trivial⟩, rfl⟩
        ((repeat ((conv => whnf); refine ⟨rfl, rfl, ?_⟩)); trivial)
    · ((repeat ((conv => whnf); first | refine brT ?_ | refine brF ?_)); conv => whnf)
      refine ⟨_, _, _, _, clonePer_h ps hp, rfl, rfl, rfl, trivial, ?_⟩
      ((repeat ((conv => whnf); first | refine brT ?_ | refine brF ?_)); conv => whnf)
      refine ⟨_, _, _, _, cloneUni_h us hu, rfl, rfl, rfl, trivial, ?_⟩
      ((repeat ((conv => whnf); first | refine brT ?_ | refine brF ?_)); conv => whnf)
      refine .inr ⟨[.old 0, .old 1, .old 3, .old 4, .old 2], ?_, ⟨rfl, rfl, rfl, rfl, rfl, rfl, rfl, rfl, rfl, rfl, trivial⟩, rfl⟩
      ((repeat ((conv => whnf); refine ⟨rfl, rfl, ?_⟩)); trivial)
  ((repeat ((conv => whnf); first | refine brT ?_ | refine brF ?_)); conv => whnf)
  intro _
  ((repeat ((conv => whnf); first | refine brT ?_ | refine brF ?_)); conv => whnf)
  rw [eb]
  refine loop_rule (α := Nat) (fun k => [(30, .int .i64 (k : Int))]) (fun k => [.box (famLV ps us), .box (.st [.nil, .nil]), .arr 102 6 (rowRN ps bs k), .arr 131 4 (us.map Uni.lv), .box (.st [.hs 2 (ps.map Per.lv).length, .hs 3 (us.map Uni.lv).length])]) (fun k => bs.length - k) (fun k => k ≤ bs.length) 0 (Nat.zero_le _) ?_ ?_
  · refine ⟨?_, ⟨rfl, rfl, congrArg (Blk.arr 102 6) (rowRN_zero ps bs).symm, rfl, rfl, trivial⟩, rfl, rfl⟩
    ((repeat ((conv => whnf); refine ⟨rfl, ?_⟩)); trivial)
  intro k hk
  ((repeat ((conv => whnf); first | refine brT ?_ | refine brF ?_)); conv => whnf)
  (refine ⟨fun g1 => ?_, fun g1 => ?_⟩ <;> rw [g1])
  · have hltb : k < bs.length := by rw [ltI_t] at g1; omega
    have hlt : k < ps.length := by omega
    have e := step_i hltb hb'
    have hL := rowRN_len hlen (Nat.le_of_lt hlt)
    have hg := rowRN_get hlen hlt
    have hset := rowRN_set hlen hlt
    ((repeat ((conv => whnf); first | refine brT ?_ | refine brF ?_)); conv => whnf)
    refine ⟨k, strLV bs[k], rfl, by simp [hltb], rfl, ?_⟩
    have hkL : k < (rowRN ps bs k).length := by omega
    have hfin : (rowRN ps bs k).set k (.st [.str bs[k], .int .i64 ps[k].sex, .int .i64 ps[k].father, .int .i64 ps[k].mother, .int .i64 ps[k].born, .int .i64 ps[k].died]) = rowRN ps bs (k + 1) := hset
    have eL : (ps.map Per.lv).length = (rowRN ps bs k).length := by rw [hL, ep]
    have hgp : getP (.st (rowRN ps bs k)) [k] = some (.st [LV.str ps[k].name, LV.int .i64 ps[k].sex, LV.int .i64 ps[k].father, LV.int .i64 ps[k].mother, LV.int .i64 ps[k].born, LV.int .i64 ps[k].died]) := by simp [getP, hg, Per.lv]
    have hgp0 : getP (.st (rowRN ps bs k)) [k, 0] = some (.str ps[k].name) := by simp [getP, hg, Per.lv]
    ((repeat ((conv => whnf); first | refine brT ?_ | refine brF ?_)); conv => whnf)
    refine ⟨eL, rfl, k, rfl, hkL, ?_⟩
    ((repeat ((conv => whnf); first | refine brT ?_ | refine brF ?_)); conv => whnf)
    refine ⟨eL, by simp, [LV.str ps[k].name, LV.int .i64 ps[k].sex, LV.int .i64 ps[k].father, LV.int .i64 ps[k].mother, LV.int .i64 ps[k].born, LV.int .i64 ps[k].died], hgp, rfl, by simp, ?_⟩
    ((repeat ((conv => whnf); first | refine brT ?_ | refine brF ?_)); conv => whnf)
    refine ⟨eL, k, [0], .str ps[k].name, rfl, hgp0, rfl, rfl, rfl, rowRN ps bs (k + 1), by rw [hg]; exact hfin, ?_⟩
    ((repeat ((conv => whnf); first | refine brT ?_ | refine brF ?_)); conv => whnf)
    refine round_end (k + 1) hltb (by omega) ⟨?_, ⟨rfl, rfl, rfl, rfl, rfl, trivial⟩, rfl, rfl⟩
    ((repeat ((conv => whnf); first | refine ⟨e, ?_⟩ | refine ⟨rfl, ?_⟩)); trivial)
  · have h3 : k = ps.length := by rw [ltI_f] at g1; omega
    subst h3
    rw [rowRN_all hlen]
    have er : ((renPers ps bs).map Per.lv).length = (ps.map Per.lv).length := by rw [List.length_map, renPers_len hlen, ep]
    rw [← er]
    ((repeat ((conv => whnf); first | refine brT ?_ | refine brF ?_)); conv => whnf)
    cases g2 : famOk (renPers ps bs) us
    · refine ⟨[2, 3], _, _, _, _, validFamily_no (renPers ps bs) us g2, rfl, rfl, rfl, trivial, ?_⟩
      ((repeat ((conv => whnf); first | refine brT ?_ | refine brF ?_)); conv => whnf)
      rw [(rn_no (ps := ps) (us := us) (bs := bs) (by unfold okRN; rw [g2]; simp)).1]
      ((repeat ((conv => whnf); first | refine brT ?_ | refine brF ?_)); conv => whnf)
      exact ⟨_, rfl, rfl, by decide, rfl, by decide, rfl, rfl, List.nodup_nil⟩
    · refine ⟨[2, 3], _, _, _, _, validFamily_yes (renPers ps bs) us g2, rfl, rfl, rfl, trivial, ?_⟩
      ((repeat ((conv => whnf); first | refine brT ?_ | refine brF ?_)); conv => whnf)
      rw [(rn_yes (ps := ps) (us := us) (bs := bs) (by unfold okRN; rw [g2, h1, h2]; rfl)).1]
      ((repeat ((conv => whnf); first | refine brT ?_ | refine brF ?_)); conv => whnf)
      exact ⟨_, rfl, rfl, rfl, rfl, rfl, rfl, rfl, rfl, rfl, rfl, rfl, show List.Nodup [2, 3] by decide⟩
end Go.Proofs.Ytdppjbiphekgjaa

namespace Go.Proofs.Ytdppjbiphekgjaa
open Go.Lg
set_option maxHeartbeats 6400000
set_option maxRecDepth 10000
set_option linter.unusedVariables false
set_option linter.unusedSimpArgs false

theorem flats_pers : ∀ xs : List Per, flatsB (xs.map Per.lv) = true
  | [] => rfl
  | p :: xs => by simp only [List.map_cons, flatsB, flats_pers xs]; rfl
theorem flats_unis : ∀ xs : List Uni, flatsB (xs.map Uni.lv) = true
  | [] => rfl
  | p :: xs => by simp only [List.map_cons, flatsB, flats_unis xs]; rfl
theorem szFam_p {ps : List Per} {us : List Uni} (hf : FamOK ps us) (hk : 0 ≤ szFam 1048576 ps us) : ps.length ≤ 1048576 := by
  unfold szFam at hk
  split at hk
  · omega
  · rename_i hh
    rw [ltI_f] at hh
    have := (szPers_ok (by omega) (by omega) hf.p hf.n hh).1
    omega
theorem szFam_u {ps : List Per} {us : List Uni} (hf : FamOK ps us) (hk : 0 ≤ szFam 1048576 ps us) : us.length ≤ 1048576 := by
  unfold szFam at hk
  split at hk
  · omega
  · rename_i hh
    rw [ltI_f] at hh
    have h1 := szPers_ok (by omega) (by omega) hf.p hf.n hh
    split at hk
    · omega
    · rename_i h3
      rw [ltI_f] at h3
      have := (szUnis_ok hh (by omega) hf.u h3).1
      omega
theorem law_renamePeople (ps : List Per) (us : List Uni) (bs : List ByteArray) (hf : FamOK ps us) (hb : bs.length ≤ Go.maxLen) (hz : ∀ b ∈ bs, b.size ≤ Go.maxLen) : FSpec env.P 9 [famLV ps us, strsLV bs] (.bool true) := by
  refine FSpec_of_code (E := env.x [14, 43, 44, 19, 46] 0) env_ok.x (fn := Try.f9) Try.func9 rfl Try.call9 _ _ ?_
  ((repeat ((conv => whnf); first | refine brT ?_ | refine brF ?_)); conv => whnf)
  refine ⟨_, szFamily_spec ps us _, ?_⟩
  ((repeat ((conv => whnf); first | refine brT ?_ | refine brF ?_)); conv => whnf)
  (refine ⟨fun h => ?_, fun h => ?_⟩ <;> rw [h])
  · ((repeat ((conv => whnf); first | refine brT ?_ | refine brF ?_)); conv => whnf); exact fin rfl
  rw [ltI_f] at h
  obtain ⟨p1, u1, s1⟩ := szFam_ok (by omega) (by omega) hf h
  have hp : ps.length ≤ 1048576 := szFam_p hf h
  have hu : us.length ≤ 1048576 := szFam_u hf h
  ((repeat ((conv => whnf); first | refine brT ?_ | refine brF ?_)); conv => whnf)
  refine ⟨_, szStringS_spec bs _, ?_⟩
  ((repeat ((conv => whnf); first | refine brT ?_ | refine brF ?_)); conv => whnf)
  (refine ⟨fun h3 => ?_, fun h3 => ?_⟩ <;> rw [h3])
  · ((repeat ((conv => whnf); first | refine brT ?_ | refine brF ?_)); conv => whnf); exact fin rfl
  rw [ltI_f] at h3
  obtain ⟨t1, t2⟩ := szStrs_ok (n := szFam 1048576 ps us) (by omega) (by omega) hb hz h3
  have b1 : 16 * bs.length ≤ 281474976710656 := by omega
  have hS := rename_spec ps us bs hp hu
  have hI := rename_impl ps us bs hp hu
  have hP : (rnP ps us bs).length ≤ 1048576 := by
    unfold rnP
    split
    · unfold renPers; rw [List.length_zipWith]; omega
    · simp
  have hU : (rnU ps us bs).length ≤ 1048576 := by
    unfold rnU
    split
    · exact hu
    · simp
  unfold rnLV at hS
  unfold rnHS at hI
  generalize rnP ps us bs = L1 at hS hI hP
  generalize rnU ps us bs = M1 at hS hI hU
  generalize okRN ps us bs = bb at hS hI
  have hm1 : (L1.map Per.lv).length = ((markPers 1 L1.length).map Per.lv).length := by simp [markPers_len]
  have hm2 : (M1.map Uni.lv).length = ((markUnis (1 + 6 * L1.length) M1.length).map Uni.lv).length := by simp [markUnis_len]
  have hfl : flatT (.tup [.st [.own 102 6 (L1.map Per.lv), .own 131 4 (M1.map Uni.lv)], .bool bb]) = true := by simp [flatT, flatB, flatsB, flats_pers, flats_unis]
  ((repeat ((conv => whnf); first | refine brT ?_ | refine brF ?_)); conv => whnf)
  refine ⟨[], _, _, _, _, toFamily_hm ps us p1 u1, rfl, rfl, rfl, trivial, ?_⟩
  ((repeat ((conv => whnf); first | refine brT ?_ | refine brF ?_)); conv => whnf)
  refine ⟨[], _, _, _, _, toStringS_h bs b1, rfl, rfl, rfl, trivial, ?_⟩
  ((repeat ((conv => whnf); first | refine brT ?_ | refine brF ?_)); conv => whnf)
  refine ⟨rfl, ?_⟩
  ((repeat ((conv => whnf); first | refine brT ?_ | refine brF ?_)); conv => whnf)
  refine ⟨rfl, ?_⟩
  ((repeat ((conv => whnf); first | refine brT ?_ | refine brF ?_)); conv => whnf)
  refine ⟨rfl, ?_⟩
  ((repeat ((conv => whnf); first | refine brT ?_ | refine brF ?_)); conv => whnf)
  refine ⟨_, hS, ?_⟩
  rw [hfl]
  ((repeat ((conv => whnf); first | refine brT ?_ | refine brF ?_)); conv => whnf)
  refine ⟨[], _, _, _, _, toFamily_hm ps us p1 u1, rfl, rfl, rfl, trivial, ?_⟩
  ((repeat ((conv => whnf); first | refine brT ?_ | refine brF ?_)); conv => whnf)
  refine ⟨[], _, _, _, _, toStringS_h bs b1, rfl, rfl, rfl, trivial, ?_⟩
  ((repeat ((conv => whnf); first | refine brT ?_ | refine brF ?_)); conv => whnf)
  refine ⟨[], _, _, _, _, hI, rfl, ?_⟩
  ((repeat ((conv => whnf); first | refine brT ?_ | refine brF ?_)); conv => whnf)
  refine ⟨rfl, ?_⟩
  ((repeat ((conv => whnf); first | refine brT ?_ | refine brF ?_)); conv => whnf)
  refine ⟨rfl, ?_⟩
  ((repeat ((conv => whnf); first | refine brT ?_ | refine brF ?_)); conv => whnf)
  refine ⟨rfl, ?_⟩
  ((repeat ((conv => whnf); first | refine brT ?_ | refine brF ?_)); conv => whnf)
  refine ⟨rfl, rfl, ⟨rfl, flats_pers _, flats_unis _, trivial⟩, ?_⟩
  ((repeat ((conv => whnf); first | refine brT ?_ | refine brF ?_)); conv => whnf)
  refine ⟨rfl, ?_⟩
  ((repeat ((conv => whnf); first | refine brT ?_ | refine brF ?_)); conv => whnf)
  refine ⟨rfl, ?_⟩
  ((repeat ((conv => whnf); first | refine brT ?_ | refine brF ?_)); conv => whnf)
  refine ⟨_, eqFamily_spec L1 L1 M1 M1, ?_⟩
  rw [eqFam_refl]
  ((repeat ((conv => whnf); first | refine brT ?_ | refine brF ?_)); conv => whnf)
  rw [show notB true = false by simp [notB]]
  ((repeat ((conv => whnf); first | refine brT ?_ | refine brF ?_)); conv => whnf)
  rw [eqB_refl, show notB true = false by simp [notB]]
  ((repeat ((conv => whnf); first | refine brT ?_ | refine brF ?_)); conv => whnf)
  refine ⟨true, by kernel_rfl, ?_⟩
  ((repeat ((conv => whnf); first | refine brT ?_ | refine brF ?_)); conv => whnf)
  refine ⟨_, toFamily_spec ps us p1 u1, ?_⟩
  ((repeat ((conv => whnf); first | refine brT ?_ | refine brF ?_)); conv => whnf)
  refine ⟨rfl, ?_⟩
  ((repeat ((conv => whnf); first | refine brT ?_ | refine brF ?_)); conv => whnf)
  refine ⟨rfl, ?_⟩
  ((repeat ((conv => whnf); first | refine brT ?_ | refine brF ?_)); conv => whnf)
  refine ⟨_, eqFamily_spec ps ps us us, ?_⟩
  rw [eqFam_refl]
  ((repeat ((conv => whnf); first | refine brT ?_ | refine brF ?_)); conv => whnf)
  rw [show notB true = false by simp [notB]]
  ((repeat ((conv => whnf); first | refine brT ?_ | refine brF ?_)); conv => whnf)
  refine ⟨[], _, _, _, _, toStringS_h bs b1, rfl, rfl, rfl, trivial, ?_⟩
  ((repeat ((conv => whnf); first | refine brT ?_ | refine brF ?_)); conv => whnf)
  refine ⟨rfl, ?_⟩
  ((repeat ((conv => whnf); first | refine brT ?_ | refine brF ?_)); conv => whnf)
  refine ⟨rfl, ?_⟩
  ((repeat ((conv => whnf); first | refine brT ?_ | refine brF ?_)); conv => whnf)
  refine ⟨_, eqStringS_spec bs bs, ?_⟩
  rw [eqList_refl eqS_refl]
  ((repeat ((conv => whnf); first | refine brT ?_ | refine brF ?_)); conv => whnf)
  rw [show notB true = false by simp [notB]]
  ((repeat ((conv => whnf); first | refine brT ?_ | refine brF ?_)); conv => whnf)
  refine ⟨[5, 6], _, _, _, _, markFamily_hm ps us 1 (by omega), rfl, rfl, rfl, trivial, ?_⟩
  ((repeat ((conv => whnf); first | refine brT ?_ | refine brF ?_)); conv => whnf)
  refine ⟨[8], _, _, _, _, markStringS_spec bs _ rfl (1 + 6 * ps.length + 4 * us.length) (by omega), rfl, rfl, rfl, trivial, ?_⟩
  ((repeat ((conv => whnf); first | refine brT ?_ | refine brF ?_)); conv => whnf)
  rw [show ltI ((1 + 6 * ps.length + 4 * us.length + bs.length : Nat) : Int) 0 = false by rw [ltI_f]; omega]
  ((repeat ((conv => whnf); first | refine brT ?_ | refine brF ?_)); conv => whnf)
  refine ⟨rfl, ?_⟩
  ((repeat ((conv => whnf); first | refine brT ?_ | refine brF ?_)); conv => whnf)
  refine ⟨rfl, ?_⟩
  ((repeat ((conv => whnf); first | refine brT ?_ | refine brF ?_)); conv => whnf)
  refine ⟨_, eqFamily_spec L1 L1 M1 M1, ?_⟩
  rw [eqFam_refl]
  ((repeat ((conv => whnf); first | refine brT ?_ | refine brF ?_)); conv => whnf)
  rw [show notB true = false by simp [notB]]
  ((repeat ((conv => whnf); first | refine brT ?_ | refine brF ?_)); conv => whnf)
  rw [eqB_refl, show notB true = false by simp [notB]]
  ((repeat ((conv => whnf); first | refine brT ?_ | refine brF ?_)); conv => whnf)
  refine ⟨[9, 10], _, _, _, _, markFamily_hm L1 M1 1 (by omega), rfl, rfl, rfl, trivial, ?_⟩
  ((repeat ((conv => whnf); first | refine brT ?_ | refine brF ?_)); conv => whnf)
  refine ⟨hm1, ?_⟩
  ((repeat ((conv => whnf); first | refine brT ?_ | refine brF ?_)); conv => whnf)
  refine ⟨hm2, ?_⟩
  ((repeat ((conv => whnf); first | refine brT ?_ | refine brF ?_)); conv => whnf)
  refine ⟨_, heldFamily_spec 1 L1.length M1.length (by omega), ?_⟩
  ((repeat ((conv => whnf); first | refine brT ?_ | refine brF ?_)); conv => whnf)
  rw [show ltI ((1 + 6 * L1.length + 4 * M1.length : Nat) : Int) 0 = false by rw [ltI_f]; omega]
  ((repeat ((conv => whnf); first | refine brT ?_ | refine brF ?_)); conv => whnf)
  rw [eqI_refl, show notB true = false by simp [notB]]
  ((repeat ((conv => whnf); first | refine brT ?_ | refine brF ?_)); conv => whnf)
  refine ⟨[], _, _, _, _, toFamily_hm ps us p1 u1, rfl, rfl, rfl, trivial, ?_⟩
  ((repeat ((conv => whnf); first | refine brT ?_ | refine brF ?_)); conv => whnf)
  refine ⟨[], _, _, _, _, toStringS_h bs b1, rfl, rfl, rfl, trivial, ?_⟩
  ((repeat ((conv => whnf); first | refine brT ?_ | refine brF ?_)); conv => whnf)
  refine ⟨[], _, _, _, _, hI, rfl, ?_⟩
  ((repeat ((conv => whnf); first | refine brT ?_ | refine brF ?_)); conv => whnf)
  refine ⟨rfl, ?_⟩
  ((repeat ((conv => whnf); first | refine brT ?_ | refine brF ?_)); conv => whnf)
  refine ⟨rfl, ?_⟩
  ((repeat ((conv => whnf); first | refine brT ?_ | refine brF ?_)); conv => whnf)
  refine ⟨rfl, ?_⟩
  ((repeat ((conv => whnf); first | refine brT ?_ | refine brF ?_)); conv => whnf)
  refine ⟨rfl, rfl, ⟨rfl, flats_pers _, flats_unis _, trivial⟩, ?_⟩
  ((repeat ((conv => whnf); first | refine brT ?_ | refine brF ?_)); conv => whnf)
  refine ⟨rfl, ?_⟩
  ((repeat ((conv => whnf); first | refine brT ?_ | refine brF ?_)); conv => whnf)
  refine ⟨rfl, ?_⟩
  ((repeat ((conv => whnf); first | refine brT ?_ | refine brF ?_)); conv => whnf)
  refine ⟨_, eqFamily_spec L1 L1 M1 M1, ?_⟩
  rw [eqFam_refl]
  ((repeat ((conv => whnf); first | refine brT ?_ | refine brF ?_)); conv => whnf)
  rw [show notB true = false by simp [notB]]
  ((repeat ((conv => whnf); first | refine brT ?_ | refine brF ?_)); conv => whnf)
  rw [eqB_refl, show notB true = false by simp [notB]]
  ((repeat ((conv => whnf); first | refine brT ?_ | refine brF ?_)); conv => whnf)
  refine ⟨hm1, ?_⟩
  ((repeat ((conv => whnf); first | refine brT ?_ | refine brF ?_)); conv => whnf)
  refine ⟨hm2, ?_⟩
  ((repeat ((conv => whnf); first | refine brT ?_ | refine brF ?_)); conv => whnf)
  refine ⟨_, heldFamily_spec 1 L1.length M1.length (by omega), ?_⟩
  ((repeat ((conv => whnf); first | refine brT ?_ | refine brF ?_)); conv => whnf)
  rw [show ltI ((1 + 6 * L1.length + 4 * M1.length : Nat) : Int) 0 = false by rw [ltI_f]; omega]
  ((repeat ((conv => whnf); first | refine brT ?_ | refine brF ?_)); conv => whnf)
  rw [eqI_refl, show notB true = false by simp [notB]]
  ((repeat ((conv => whnf); first | refine brT ?_ | refine brF ?_)); conv => whnf)
  exact fin rfl
end Go.Proofs.Ytdppjbiphekgjaa

namespace Go.Proofs.Ytdppjbiphekgjaa
open Go.Lg
set_option maxRecDepth 10000
set_option linter.unusedVariables false
set_option linter.unusedSimpArgs false

abbrev shStrs : Sh := .sl .str
theorem str_of_sh1 {x : LV} (h : hasSh .str x) : ∃ b : ByteArray, x = strLV b ∧ b.size ≤ maxLen := by
  simp only [hasSh] at h
  obtain ⟨s, rfl, hs⟩ := h
  exact ⟨s, rfl, hs⟩
theorem strs_of_sh {x : LV} (h : hasSh shStrs x) : ∃ bs : List ByteArray, x = strsLV bs ∧ (bs.length ≤ Go.maxLen ∧ ∀ b ∈ bs, b.size ≤ Go.maxLen) := by
  simp only [hasSh] at h
  obtain ⟨ys, rfl, hl, hy⟩ := h
  obtain ⟨bs, rfl, hbs⟩ := list_of (lv := strLV) (Q := fun b => b.size ≤ maxLen) ys fun y hy' => str_of_sh1 (by simp only [hasSh]; exact hy y hy')
  exact ⟨bs, rfl, by simpa using hl, hbs⟩
theorem law_renamePeople2 (ps : List Per) (us : List Uni) (bs : List ByteArray) (hf : FamOK ps us) (hb : bs.length ≤ Go.maxLen ∧ ∀ b ∈ bs, b.size ≤ Go.maxLen) : FSpec env.P 9 [famLV ps us, strsLV bs] (.bool true) :=
  law_renamePeople ps us bs hf hb.1 hb.2
end Go.Proofs.Ytdppjbiphekgjaa
