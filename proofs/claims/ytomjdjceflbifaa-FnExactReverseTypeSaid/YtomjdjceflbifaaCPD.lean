/- Contracts of functions of the program and of its model, told over readings. -/
import Derived.Test.YtomjdjceflbifaaCPC
import Derived.Test.YtomjdjceflbifaaCLgRM
namespace Go.Proofs.Ytomjdjceflbifaa
open Go.Lg
set_option maxHeartbeats 1600000
set_option maxRecDepth 10000
set_option linter.unusedVariables false
set_option linter.unusedSimpArgs false

def revHS (e : Int) (ss : List Pr) : LV := .tup [typHS (revE e ss) 0 ((revL e ss).map Pr.lv).length, .bool (okV e ss)]
theorem revHS_no {e : Int} {ss : List Pr} (h : okV e ss = false) : revHS e ss = .tup [typHS 0 0 0, .bool false] ∧ revL e ss = [] := by
  have e1 : revL e ss = [] := by unfold revL; rw [h]
  refine ⟨?_, e1⟩
  unfold revHS revE; rw [h, e1]; rfl
theorem revHS_yes {e : Int} {ss : List Pr} (h : okV e ss = true) : revHS e ss = .tup [typHS (lastT e ss) 0 ((revK (bkAt (egoT e ss) ss) ss.length).map Pr.lv).length, .bool true] ∧ revL e ss = revK (bkAt (egoT e ss) ss) ss.length := by
  have e1 : revL e ss = revK (bkAt (egoT e ss) ss) ss.length := by unfold revL; rw [h]
  refine ⟨?_, e1⟩
  unfold revHS revE; rw [h, e1]
/-- What has come when j rounds are over. -/
def fwK (g : Nat → Pr) (n j : Nat) : List Pr := (bwL n j).map g
theorem fwK_succ (g : Nat → Pr) (n j : Nat) : fwK g n (j + 1) = fwK g n j ++ [g (n - 1 - j)] := by unfold fwK; rw [bwL_succ, List.map_append]; rfl
theorem fwK_len (g : Nat → Pr) (n j : Nat) : (fwK g n j).length = j := by simp [fwK, bwL]

theorem bwL_get {n m j y : Nat} (h : (bwL n m)[j]? = some y) : j < m ∧ y = n - 1 - j := by
  unfold bwL at h
  rw [List.getElem?_map] at h
  by_cases hj : j < m
  · simp [hj] at h; exact ⟨hj, h.symm⟩
  · rw [List.getElem?_eq_none (by simp; omega)] at h; cases h
theorem sexTo_getD {x : Int} {ss : List Pr} {k i : Nat} (h : i < k) : (sexTo x ss k).getD i 0 = sexAt x ss i := by simp [sexTo, h]
theorem reverse_impl (e : Int) (ss : List Pr) (hl : ss.length ≤ 1048576) : HSpec env.P 35 [typLV e ss] [] (revHS e ss) [.arr 96 2 ((revL e ss).map Pr.lv)] := by
  refine HSpec_of_codeR (E := env.x [90] 0) env_ok.x (fn := Try.f35) Try.func35 rfl (by kernel_rfl) Try.call35 _ _ _ _ ?_
  have hp' : ss.length ≤ Go.maxLen := by unfold Go.maxLen; omega
  ((repeat ((conv => whnf); first | refine brT ?_ | refine brF ?_)); conv => whnf)
  refine ⟨_, egoOfType_impl e ss, ?_⟩
  ((repeat ((conv => whnf); first | refine brT ?_ | refine brF ?_)); conv => whnf)
  refine ⟨_, isType_impl e ss, ?_⟩
  ((repeat ((conv => whnf); first | refine brT ?_ | refine brF ?_)); conv => whnf)
  (refine ⟨fun h1 => ?_, fun h1 => ?_⟩ <;> rw [h1])
  · rw [(revHS_no (by unfold okV; rw [notB_t] at h1; rw [h1]; rfl)).1, (revHS_no (by unfold okV; rw [notB_t] at h1; rw [h1]; rfl)).2]
    ((repeat ((conv => whnf); first | refine brT ?_ | refine brF ?_)); conv => whnf)
    exact ⟨[typHS 0 0 0, .bool false], rfl, rfl, .nl [.tmp 0 [1] false 96 2] [.old 2] ⟨⟨rfl, rfl, rfl, rfl, trivial⟩, ⟨rfl, rfl, trivial⟩, rfl⟩⟩
  rw [notB_f] at h1
  have hego : egoR e ss = egoT e ss := by unfold egoR; rw [h1]
  rw [hego]
  ((repeat ((conv => whnf); first | refine brT ?_ | refine brF ?_)); conv => whnf)
  intro hp
  rw [List.length_map]
  ((repeat ((conv => whnf); first | refine brT ?_ | refine brF ?_)); conv => whnf)
  (refine ⟨fun h2 => ?_, fun h2 => ?_⟩ <;> rw [h2])
  · ((repeat ((conv => whnf); first | refine brT ?_ | refine brF ?_)); conv => whnf)
    (refine ⟨fun h3 => ?_, fun h3 => ?_⟩ <;> rw [h3])
    · rw [(revHS_no (by unfold okV; rw [h1, h2, h3]; rfl)).1, (revHS_no (by unfold okV; rw [h1, h2, h3]; rfl)).2]
      ((repeat ((conv => whnf); first | refine brT ?_ | refine brF ?_)); conv => whnf)
      exact ⟨[typHS 0 0 0, .bool false], rfl, rfl, .nl [.tmp 0 [1] false 96 2] [.old 2] ⟨⟨rfl, rfl, rfl, rfl, trivial⟩, ⟨rfl, rfl, trivial⟩, rfl⟩⟩
    have hok : okV e ss = true := by unfold okV; rw [h1, h2, h3]; rfl
    have h8 : ss.length ≤ 8 := by unfold typB at h1; simp only [Bool.and_eq_true, leI_t] at h1; omega
    have hlt : lastT e ss = sexR e ss := by unfold sexR; rw [h1]
    rw [(revHS_yes hok).1, (revHS_yes hok).2, ← revK_bw]
    ((repeat ((conv => whnf); first | refine brT ?_ | refine brF ?_)); conv => whnf)
    refine ⟨_, sexOfType_impl e ss, ?_⟩
    rw [← hlt]
    ((repeat ((conv => whnf); first | refine brT ?_ | refine brF ?_)); conv => whnf)
    refine ⟨_, sexesFrom_f (egoT e ss) ss h8, ?_⟩
    ((repeat ((conv => whnf); first | refine brT ?_ | refine brF ?_)); conv => whnf)
    refine ⟨[], _, _, _, _, backward_h (sexTo (egoT e ss) ss ss.length), rfl, rfl, rfl, trivial, ?_⟩
    ((repeat ((conv => whnf); first | refine brT ?_ | refine brF ?_)); conv => whnf)
    have hvs : (sexTo (egoT e ss) ss ss.length).length = ss.length := sexTo_len _ _ _
    refine rangeR_ruleS (bwE (sexTo (egoT e ss) ss ss.length)) (bwL (sexTo (egoT e ss) ss ss.length).length (sexTo (egoT e ss) ss ss.length).length)
      (fun j => [.box (typLV e ss), .box (.st [.int .i64 0, .nil]), .box (.st [.int .i64 (lastT e ss), .hs 4 ((fwK (bkAt (egoT e ss) ss) ss.length j).map Pr.lv).length]), .dead, .arr 96 2 ((fwK (bkAt (egoT e ss) ss) ss.length j).map Pr.lv)]) (fun _ => True)
      [.box (typLV e ss), .box (.st [.int .i64 0, .nil]), .box (.st [.int .i64 (lastT e ss), .hs 4 0]), .box (.sl ((sexTo (egoT e ss) ss ss.length).map intLV)), .arr 96 2 []]
      (.nl [.box 2 [1] false 96 2] [.old 0, .old 1, .old 2, .old 3, .old 4] ⟨?_, ⟨rfl, rfl, rfl, rfl, rfl, rfl, rfl, rfl, rfl, rfl, trivial⟩, rfl⟩) rfl rfl (fun K h => h) (backward_g _ (by rw [hvs]; exact hp')) (by kernel_rfl) trivial 5 (fun _ => rfl) (fun _ _ => rfl) ?_ ?_
    · ((repeat ((conv => whnf); refine ⟨rfl, rfl, ?_⟩)); trivial)
    · intro j y hy _
      rw [hvs] at hy
      obtain ⟨hj, rfl⟩ := bwL_get hy
      have hm : ss.length - 1 - j < ss.length := by omega
      obtain ⟨hx, hst⟩ := okV_sex hok (ss.length - 1 - j) hm
      have hbe : bwE (sexTo (egoT e ss) ss ss.length) (ss.length - 1 - j) = [.int .i64 ((ss.length - 1 - j : Nat) : Int), .int .i64 (sexAt (egoT e ss) ss (ss.length - 1 - j))] := by unfold bwE; rw [sexTo_getD hm]
      have hbk : bkI ss[ss.length - 1 - j] (sexAt (egoT e ss) ss (ss.length - 1 - j)) = bkAt (egoT e ss) ss (ss.length - 1 - j) := by simp [bkAt, hm]
      have e2 : (fwK (bkAt (egoT e ss) ss) ss.length j).map Pr.lv ++ [(bkI ss[ss.length - 1 - j] (sexAt (egoT e ss) ss (ss.length - 1 - j))).lv] = (fwK (bkAt (egoT e ss) ss) ss.length (j + 1)).map Pr.lv := by rw [hbk, fwK_succ, List.map_append]; rfl
      rw [hbe]
      ((repeat ((conv => whnf); first | refine brT ?_ | refine brF ?_)); conv => whnf)
      refine ⟨false, 0, 0, 3, [0, 1, 2, 3, 4, 5, 6, 7], (.one 8 (.one 9 (.one 10 (.one 11 (.one 12 .done))))), by kernel_rfl, by kernel_rfl, ?_⟩
      ((repeat ((conv => whnf); first | refine brT ?_ | refine brF ?_)); conv => whnf)
      refine ⟨ss.length - 1 - j, ss[ss.length - 1 - j].lv, rfl, by simp [hm], rfl, ?_⟩
      ((repeat ((conv => whnf); first | refine brT ?_ | refine brF ?_)); conv => whnf)
      apply Exists.intro
      apply Exists.intro
      refine And.intro ?_ ?_
      · refine ⟨_, stepBack_spec ss[ss.length - 1 - j] (sexAt (egoT e ss) ss (ss.length - 1 - j)) hx, ?_⟩
        ((repeat ((conv => whnf); first | refine brT ?_ | refine brF ?_)); conv => whnf)
        refine Weak.idn ?_ ?_ rfl
        · ((repeat ((conv => whnf); refine ⟨rfl, ?_⟩)); trivial)
        · exact ⟨rfl, rfl, rfl, rfl, rfl, rfl, trivial⟩
      ((repeat ((conv => whnf); first | refine brT ?_ | refine brF ?_)); conv => whnf)
      refine ⟨rfl, ?_⟩
      ((repeat ((conv => whnf); first | refine brT ?_ | refine brF ?_)); conv => whnf)
      refine ⟨rfl, ?_, ?_, ?_⟩
      · simp [fwK_len]; unfold Go.maxLen; omega
      · simp [fwK_len]; omega
      ((repeat ((conv => whnf); first | refine brT ?_ | refine brF ?_)); conv => whnf)
      refine ⟨[.box (typLV e ss), .box (.st [.int .i64 0, .nil]), .box (.st [.int .i64 (lastT e ss), .hs 4 ((fwK (bkAt (egoT e ss) ss) ss.length (j + 1)).map Pr.lv).length]), .dead, .arr 96 2 ((fwK (bkAt (egoT e ss) ss) ss.length (j + 1)).map Pr.lv)],
        .inr ⟨[.old 0, .old 1, .old 2, .old 3, .old 6], ?_, ⟨rfl, rfl, rfl, rfl, rfl, congrArg (fun l : List LV => Blk.box (.st [.int .i64 (lastT e ss), .hs 4 l.length])) e2, rfl, rfl, rfl, congrArg (Blk.arr 96 2) e2, trivial⟩, rfl⟩, rfl, trivial⟩
      ((repeat ((conv => whnf); refine ⟨rfl, rfl, ?_⟩)); trivial)
    · intro _
      rw [hvs, bwL_len]
      ((repeat ((conv => whnf); first | refine brT ?_ | refine brF ?_)); conv => whnf)
      exact ⟨[typHS (lastT e ss) 0 ((fwK (bkAt (egoT e ss) ss) ss.length ss.length).map Pr.lv).length, .bool true], rfl, rfl, .inr ⟨[.old 4], ⟨rfl, rfl, rfl, rfl, trivial⟩, ⟨rfl, rfl, trivial⟩, rfl⟩⟩
  · have hok : okV e ss = true := by unfold okV; rw [h1, h2]; rfl
    have h8 : ss.length ≤ 8 := by unfold typB at h1; simp only [Bool.and_eq_true, leI_t] at h1; omega
    have hlt : lastT e ss = sexR e ss := by unfold sexR; rw [h1]
    rw [(revHS_yes hok).1, (revHS_yes hok).2, ← revK_bw]
    ((repeat ((conv => whnf); first | refine brT ?_ | refine brF ?_)); conv => whnf)
    refine ⟨_, sexOfType_impl e ss, ?_⟩
    rw [← hlt]
    ((repeat ((conv => whnf); first | refine brT ?_ | refine brF ?_)); conv => whnf)
    refine ⟨_, sexesFrom_f (egoT e ss) ss h8, ?_⟩
    ((repeat ((conv => whnf); first | refine brT ?_ | refine brF ?_)); conv => whnf)
    refine ⟨[], _, _, _, _, backward_h (sexTo (egoT e ss) ss ss.length), rfl, rfl, rfl, trivial, ?_⟩
    ((repeat ((conv => whnf); first | refine brT ?_ | refine brF ?_)); conv => whnf)
    have hvs : (sexTo (egoT e ss) ss ss.length).length = ss.length := sexTo_len _ _ _
    refine rangeR_ruleS (bwE (sexTo (egoT e ss) ss ss.length)) (bwL (sexTo (egoT e ss) ss ss.length).length (sexTo (egoT e ss) ss ss.length).length)
      (fun j => [.box (typLV e ss), .box (.st [.int .i64 0, .nil]), .box (.st [.int .i64 (lastT e ss), .hs 4 ((fwK (bkAt (egoT e ss) ss) ss.length j).map Pr.lv).length]), .dead, .arr 96 2 ((fwK (bkAt (egoT e ss) ss) ss.length j).map Pr.lv)]) (fun _ => True)
      [.box (typLV e ss), .box (.st [.int .i64 0, .nil]), .box (.st [.int .i64 (lastT e ss), .hs 4 0]), .box (.sl ((sexTo (egoT e ss) ss ss.length).map intLV)), .arr 96 2 []]
      (.nl [.box 2 [1] false 96 2] [.old 0, .old 1, .old 2, .old 3, .old 4] ⟨?_, ⟨rfl, rfl, rfl, rfl, rfl, rfl, rfl, rfl, rfl, rfl, trivial⟩, rfl⟩) rfl rfl (fun K h => h) (backward_g _ (by rw [hvs]; exact hp')) (by kernel_rfl) trivial 5 (fun _ => rfl) (fun _ _ => rfl) ?_ ?_
    · ((repeat ((conv => whnf); refine ⟨rfl, rfl, ?_⟩)); trivial)
    · intro j y hy _
      rw [hvs] at hy
      obtain ⟨hj, rfl⟩ := bwL_get hy
      have hm : ss.length - 1 - j < ss.length := by omega
      obtain ⟨hx, hst⟩ := okV_sex hok (ss.length - 1 - j) hm
      have hbe : bwE (sexTo (egoT e ss) ss ss.length) (ss.length - 1 - j) = [.int .i64 ((ss.length - 1 - j : Nat) : Int), .int .i64 (sexAt (egoT e ss) ss (ss.length - 1 - j))] := by unfold bwE; rw [sexTo_getD hm]
      have hbk : bkI ss[ss.length - 1 - j] (sexAt (egoT e ss) ss (ss.length - 1 - j)) = bkAt (egoT e ss) ss (ss.length - 1 - j) := by simp [bkAt, hm]
      have e2 : (fwK (bkAt (egoT e ss) ss) ss.length j).map Pr.lv ++ [(bkI ss[ss.length - 1 - j] (sexAt (egoT e ss) ss (ss.length - 1 - j))).lv] = (fwK (bkAt (egoT e ss) ss) ss.length (j + 1)).map Pr.lv := by rw [hbk, fwK_succ, List.map_append]; rfl
      rw [hbe]
      ((repeat ((conv => whnf); first | refine brT ?_ | refine brF ?_)); conv => whnf)
      refine ⟨false, 0, 0, 3, [0, 1, 2, 3, 4, 5, 6, 7], (.one 8 (.one 9 (.one 10 (.one 11 (.one 12 .done))))), by kernel_rfl, by kernel_rfl, ?_⟩
      ((repeat ((conv => whnf); first | refine brT ?_ | refine brF ?_)); conv => whnf)
      refine ⟨ss.length - 1 - j, ss[ss.length - 1 - j].lv, rfl, by simp [hm], rfl, ?_⟩
      ((repeat ((conv => whnf); first | refine brT ?_ | refine brF ?_)); conv => whnf)
      apply Exists.intro
      apply Exists.intro
      refine And.intro ?_ ?_
      · refine ⟨_, stepBack_spec ss[ss.length - 1 - j] (sexAt (egoT e ss) ss (ss.length - 1 - j)) hx, ?_⟩
        ((repeat ((conv => whnf); first | refine brT ?_ | refine brF ?_)); conv => whnf)
        refine Weak.idn ?_ ?_ rfl
        · ((repeat ((conv => whnf); refine ⟨rfl, ?_⟩)); trivial)
        · exact ⟨rfl, rfl, rfl, rfl, rfl, rfl, trivial⟩
      ((repeat ((conv => whnf); first | refine brT ?_ | refine brF ?_)); conv => whnf)
      refine ⟨rfl, ?_⟩
      ((repeat ((conv => whnf); first | refine brT ?_ | refine brF ?_)); conv => whnf)
      refine ⟨rfl, ?_, ?_, ?_⟩
      · simp [fwK_len]; unfold Go.maxLen; omega
      · simp [fwK_len]; omega
      ((repeat ((conv => whnf); first | refine brT ?_ | refine brF ?_)); conv => whnf)
      refine ⟨[.box (typLV e ss), .box (.st [.int .i64 0, .nil]), .box (.st [.int .i64 (lastT e ss), .hs 4 ((fwK (bkAt (egoT e ss) ss) ss.length (j + 1)).map Pr.lv).length]), .dead, .arr 96 2 ((fwK (bkAt (egoT e ss) ss) ss.length (j + 1)).map Pr.lv)],
        .inr ⟨[.old 0, .old 1, .old 2, .old 3, .old 6], ?_, ⟨rfl, rfl, rfl, rfl, rfl, congrArg (fun l : List LV => Blk.box (.st [.int .i64 (lastT e ss), .hs 4 l.length])) e2, rfl, rfl, rfl, congrArg (Blk.arr 96 2) e2, trivial⟩, rfl⟩, rfl, trivial⟩
      ((repeat ((conv => whnf); refine ⟨rfl, rfl, ?_⟩)); trivial)
    · intro _
      rw [hvs, bwL_len]
      ((repeat ((conv => whnf); first | refine brT ?_ | refine brF ?_)); conv => whnf)
      exact ⟨[typHS (lastT e ss) 0 ((fwK (bkAt (egoT e ss) ss) ss.length ss.length).map Pr.lv).length, .bool true], rfl, rfl, .inr ⟨[.old 4], ⟨rfl, rfl, rfl, rfl, trivial⟩, ⟨rfl, rfl, trivial⟩, rfl⟩⟩
end Go.Proofs.Ytomjdjceflbifaa

namespace Go.Proofs.Ytomjdjceflbifaa
open Go.Lg
set_option maxHeartbeats 1600000
set_option maxRecDepth 10000
set_option linter.unusedVariables false
set_option linter.unusedSimpArgs false

theorem reverse_impl_f (e : Int) (ss : List Pr) (hl : ss.length ≤ 1048576) : FSpec env.P 35 [typLV e ss] (revLV e ss) := by
  have h := reverse_impl e ss hl
  unfold revHS typHS at h
  unfold revLV
  exact FSpec_of_HSpecT h (by simp [exsW, exW])

theorem law_reverseType (e : Int) (ss : List Pr) (h1 : ss.length ≤ Go.maxLen) : FSpec env.P 6 [typLV e ss] (.bool true) := by
  refine FSpec_of_code (E := env.x [35, 25, 20] 0) env_ok.x (fn := Try.f6) Try.func6 rfl Try.call6 _ _ ?_
  ((repeat ((conv => whnf); first | refine brT ?_ | refine brF ?_)); conv => whnf)
  refine ⟨_, szKinType_spec e ss 1048576, ?_⟩
  by_cases k1 : 0 ≤ szT 1048576 ss.length
  rotate_left
  · ((repeat ((conv => whnf); first | refine brT ?_ | refine brF ?_)); conv => whnf)
    rw [show ltI (szT 1048576 ss.length) 0 = true by rw [ltI_t]; omega]
    ((repeat ((conv => whnf); first | refine brT ?_ | refine brF ?_)); conv => whnf)
    exact fin rfl
  obtain ⟨n1, m1, hf1, b1, -⟩ := szT_ok (by omega) (by omega) h1 k1
  have hl : ss.length ≤ 1048576 := by omega
  ((repeat ((conv => whnf); first | refine brT ?_ | refine brF ?_)); conv => whnf)
  rw [hf1]
  ((repeat ((conv => whnf); first | refine brT ?_ | refine brF ?_)); conv => whnf)
  have hS := reverse_spec e ss hl
  have hI := reverse_impl e ss hl
  have hF := reverse_impl_f e ss hl
  have hLL : (revL e ss).length ≤ ss.length := by unfold revL; split <;> simp [revK_len]
  unfold revLV at hS hF
  unfold revHS at hI
  generalize revE e ss = E1 at hS hI hF
  generalize revL e ss = L1 at hS hI hF hLL
  generalize okV e ss = bb at hS hI hF
  have hm : (L1.map Pr.lv).length = ((markPrs 1 L1.length).map Pr.lv).length := by simp [markPrs_len]
  refine ⟨[], _, _, _, _, toKinType_h e ss b1, rfl, rfl, rfl, trivial, ?_⟩
  ((repeat ((conv => whnf); first | refine brT ?_ | refine brF ?_)); conv => whnf)
  refine ⟨rfl, ?_⟩
  ((repeat ((conv => whnf); first | refine brT ?_ | refine brF ?_)); conv => whnf)
  refine ⟨_, hS, ?_⟩
  ((repeat ((conv => whnf); first | refine brT ?_ | refine brF ?_)); conv => whnf)
  rw [show flatT (LV.tup [LV.st [LV.int .i64 E1, LV.own 96 2 (L1.map Pr.lv)], LV.bool bb]) = true by simp [flatT, flatB, flatsB, flats_prs]]
  ((repeat ((conv => whnf); first | refine brT ?_ | refine brF ?_)); conv => whnf)
  refine ⟨[], _, _, _, _, toKinType_h e ss b1, rfl, rfl, rfl, trivial, ?_⟩
  ((repeat ((conv => whnf); first | refine brT ?_ | refine brF ?_)); conv => whnf)
  refine ⟨[], _, _, _, _, hI, rfl, ?_⟩
  ((repeat ((conv => whnf); first | refine brT ?_ | refine brF ?_)); conv => whnf)
  refine ⟨rfl, ?_⟩
  ((repeat ((conv => whnf); first | refine brT ?_ | refine brF ?_)); conv => whnf)
  refine ⟨rfl, rfl, ⟨rfl, flats_prs _, trivial⟩, ?_⟩
  ((repeat ((conv => whnf); first | refine brT ?_ | refine brF ?_)); conv => whnf)
  refine ⟨rfl, ?_⟩
  ((repeat ((conv => whnf); first | refine brT ?_ | refine brF ?_)); conv => whnf)
  refine ⟨_, eqKinType_spec E1 L1 E1 L1, ?_⟩
  rw [eqTyp_refl]
  ((repeat ((conv => whnf); first | refine brT ?_ | refine brF ?_)); conv => whnf)
  rw [show notB true = false by simp [notB]]
  ((repeat ((conv => whnf); first | refine brT ?_ | refine brF ?_)); conv => whnf)
  rw [eqB_refl, show notB true = false by simp [notB]]
  ((repeat ((conv => whnf); first | refine brT ?_ | refine brF ?_)); conv => whnf)
  refine ⟨true, by kernel_rfl, ?_⟩
  ((repeat ((conv => whnf); first | refine brT ?_ | refine brF ?_)); conv => whnf)
  refine ⟨_, toKinType_f e ss b1, ?_⟩
  ((repeat ((conv => whnf); first | refine brT ?_ | refine brF ?_)); conv => whnf)
  refine ⟨rfl, ?_⟩
  ((repeat ((conv => whnf); first | refine brT ?_ | refine brF ?_)); conv => whnf)
  refine ⟨_, eqKinType_spec e ss e ss, ?_⟩
  rw [eqTyp_refl]
  ((repeat ((conv => whnf); first | refine brT ?_ | refine brF ?_)); conv => whnf)
  rw [show notB true = false by simp [notB]]
  ((repeat ((conv => whnf); first | refine brT ?_ | refine brF ?_)); conv => whnf)
  refine ⟨[3], _, _, _, _, markKinType_spec e ss _ rfl 1 (by omega), rfl, rfl, rfl, trivial, ?_⟩
  ((repeat ((conv => whnf); first | refine brT ?_ | refine brF ?_)); conv => whnf)
  rw [show ltI ((1 + 2 * ss.length : Nat) : Int) 0 = false by rw [ltI_f]; omega]
  ((repeat ((conv => whnf); first | refine brT ?_ | refine brF ?_)); conv => whnf)
  refine ⟨rfl, ?_⟩
  ((repeat ((conv => whnf); first | refine brT ?_ | refine brF ?_)); conv => whnf)
  refine ⟨_, eqKinType_spec E1 L1 E1 L1, ?_⟩
  rw [eqTyp_refl]
  ((repeat ((conv => whnf); first | refine brT ?_ | refine brF ?_)); conv => whnf)
  rw [show notB true = false by simp [notB]]
  ((repeat ((conv => whnf); first | refine brT ?_ | refine brF ?_)); conv => whnf)
  rw [eqB_refl, show notB true = false by simp [notB]]
  ((repeat ((conv => whnf); first | refine brT ?_ | refine brF ?_)); conv => whnf)
  refine ⟨[5], _, _, _, _, markKinType_spec E1 L1 _ rfl 1 (by omega), rfl, rfl, rfl, trivial, ?_⟩
  ((repeat ((conv => whnf); first | refine brT ?_ | refine brF ?_)); conv => whnf)
  refine ⟨hm, ?_⟩
  ((repeat ((conv => whnf); first | refine brT ?_ | refine brF ?_)); conv => whnf)
  refine ⟨_, heldKinType_spec E1 1 L1.length (by omega), ?_⟩
  ((repeat ((conv => whnf); first | refine brT ?_ | refine brF ?_)); conv => whnf)
  rw [show ltI ((1 + 2 * L1.length : Nat) : Int) 0 = false by rw [ltI_f]; omega]
  ((repeat ((conv => whnf); first | refine brT ?_ | refine brF ?_)); conv => whnf)
  rw [eqI_refl, show notB true = false by simp [notB]]
  ((repeat ((conv => whnf); first | refine brT ?_ | refine brF ?_)); conv => whnf)
  refine ⟨[], _, _, _, _, toKinType_h e ss b1, rfl, rfl, rfl, trivial, ?_⟩
  ((repeat ((conv => whnf); first | refine brT ?_ | refine brF ?_)); conv => whnf)
  refine ⟨[], _, _, _, _, hI, rfl, ?_⟩
  ((repeat ((conv => whnf); first | refine brT ?_ | refine brF ?_)); conv => whnf)
  refine ⟨rfl, ?_⟩
  ((repeat ((conv => whnf); first | refine brT ?_ | refine brF ?_)); conv => whnf)
  refine ⟨rfl, rfl, ⟨rfl, flats_prs _, trivial⟩, ?_⟩
  ((repeat ((conv => whnf); first | refine brT ?_ | refine brF ?_)); conv => whnf)
  
  refine ⟨rfl, ?_⟩
  ((repeat ((conv => whnf); first | refine brT ?_ | refine brF ?_)); conv => whnf)
  refine ⟨_, eqKinType_spec E1 L1 E1 L1, ?_⟩
  rw [eqTyp_refl]
  ((repeat ((conv => whnf); first | refine brT ?_ | refine brF ?_)); conv => whnf)
  rw [show notB true = false by simp [notB]]
  ((repeat ((conv => whnf); first | refine brT ?_ | refine brF ?_)); conv => whnf)
  rw [eqB_refl, show notB true = false by simp [notB]]
  ((repeat ((conv => whnf); first | refine brT ?_ | refine brF ?_)); conv => whnf)
  refine ⟨hm, ?_⟩
  ((repeat ((conv => whnf); first | refine brT ?_ | refine brF ?_)); conv => whnf)
  refine ⟨_, heldKinType_spec E1 1 L1.length (by omega), ?_⟩
  ((repeat ((conv => whnf); first | refine brT ?_ | refine brF ?_)); conv => whnf)
  rw [show ltI ((1 + 2 * L1.length : Nat) : Int) 0 = false by rw [ltI_f]; omega]
  ((repeat ((conv => whnf); first | refine brT ?_ | refine brF ?_)); conv => whnf)
  rw [eqI_refl, show notB true = false by simp [notB]]
  ((repeat ((conv => whnf); first | refine brT ?_ | refine brF ?_)); conv => whnf)
  exact fin rfl
end Go.Proofs.Ytomjdjceflbifaa
