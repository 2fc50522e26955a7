/- Contracts of functions of the program and of its model, told over readings. -/
import Derived.Test.YtpfipmjmblgjfaaEPE
import Derived.Test.YtpfipmjmblgjfaaEPD
import Derived.Test.YtpfipmjmblgjfaaELgRN
import Derived.Test.YtpfipmjmblgjfaaEPB
namespace Go.Proofs.Ytpfipmjmblgjfaa
open Go.Lg Go.Pm
set_option maxHeartbeats 6400000
set_option maxRecDepth 10000
set_option linter.unusedVariables false
set_option linter.unusedSimpArgs false

def pdBlk (w1 c1 w2 c2 : List Int) (i j : Nat) : Bool → List Blk
  | false => [.box (clsLV w1 c1), .box (clsLV w2 c2), .box (.st [.nil, .nil]), .box (.st [.nil, .nil])]
  | true => [.box (clsLV w1 c1), .box (clsLV w2 c2), .box (.st [.nil, .nil]), .box (.st [.hs 4 ((pdTo w1 w2 i j).map intLV).length, .hs 5 ((pdTo c1 c2 i j).map intLV).length]), .arr 3 1 ((pdTo w1 w2 i j).map intLV), .arr 3 1 ((pdTo c1 c2 i j).map intLV)]
def pdKp : Bool → List Kp
  | false => [.old 0, .old 1, .old 2, .old 3]
  | true => [.old 0, .old 1, .old 2, .old 3, .old 4, .old 5]
theorem product_spec (w1 c1 w2 c2 : List Int) (h1 : w1.length ≤ 1048576) (h2 : c1.length ≤ 1048576) (h3 : w2.length ≤ 1048576) (h4 : c2.length ≤ 1048576) :
    HSpec env.P 45 [clsLV w1 c1, clsLV w2 c2] [] (pdHS (pdB w1 c1 w2 c2) ((pdL (pdB w1 c1 w2 c2) w1 w2).map intLV).length ((pdL (pdB w1 c1 w2 c2) c1 c2).map intLV).length) (clsH (pdL (pdB w1 c1 w2 c2) w1 w2) (pdL (pdB w1 c1 w2 c2) c1 c2)) := by
  refine HSpec_of_code (E := env.x [] 0) env_ok.x (fn := Try.f45) Try.func45 rfl Try.call45 _ _ _ _ ?_
  have hW1 : (w1.map intLV).length = w1.length := List.length_map ..
  have hW2 : (w2.map intLV).length = w2.length := List.length_map ..
  ((repeat ((conv => whnf); first | refine brT ?_ | refine brF ?_)); conv => whnf)
  intro _
  rw [hW2]
  ((repeat ((conv => whnf); first | refine brT ?_ | refine brF ?_)); conv => whnf)
  refine ⟨_, isClasses_spec w1 c1 h1 h2, ?_⟩
  ((repeat ((conv => whnf); first | refine brT ?_ | refine brF ?_)); conv => whnf)
  (refine ⟨fun g1 => ?_, fun g1 => ?_⟩ <;> rw [g1])
  · rw [notB_t] at g1
    have e : pdB w1 c1 w2 c2 = false := by unfold pdB; rw [g1]; rfl
    rw [e]
    ((repeat ((conv => whnf); first | refine brT ?_ | refine brF ?_)); conv => whnf)
    exact ⟨[clsHS 0 0, .bool false], rfl, rfl, .nl [.tmp 0 [0] false 3 1, .tmp 0 [1] false 3 1] [.old 3, .old 4] ⟨⟨rfl, rfl, rfl, rfl, trivial⟩, ⟨rfl, rfl, rfl, rfl, trivial⟩, rfl⟩⟩
  rw [notB_f] at g1
  ((repeat ((conv => whnf); first | refine brT ?_ | refine brF ?_)); conv => whnf)
  refine ⟨_, isClasses_spec w2 c2 h3 h4, ?_⟩
  ((repeat ((conv => whnf); first | refine brT ?_ | refine brF ?_)); conv => whnf)
  (refine ⟨fun g2 => ?_, fun g2 => ?_⟩ <;> rw [g2])
  · rw [notB_t] at g2
    have e : pdB w1 c1 w2 c2 = false := by unfold pdB; rw [g1, g2]; rfl
    rw [e]
    ((repeat ((conv => whnf); first | refine brT ?_ | refine brF ?_)); conv => whnf)
    exact ⟨[clsHS 0 0, .bool false], rfl, rfl, .nl [.tmp 0 [0] false 3 1, .tmp 0 [1] false 3 1] [.old 3, .old 4] ⟨⟨rfl, rfl, rfl, rfl, trivial⟩, ⟨rfl, rfl, rfl, rfl, trivial⟩, rfl⟩⟩
  rw [notB_f] at g2
  obtain ⟨n1, n8, hl, pw, pc⟩ := clsB_at g1
  obtain ⟨m1, m8, kl, qw, qc⟩ := clsB_at g2
  have ew : IntKind.i64.wrap ((w1.length : Int) * (w2.length : Int)) = (w1.length : Int) * (w2.length : Int) := by
    have : w1.length * w2.length ≤ 8 * 8 := Nat.mul_le_mul n8 m8
    rw [← Int.natCast_mul, wrap64 (by omega) (by omega)]
  ((repeat ((conv => whnf); first | refine brT ?_ | refine brF ?_)); conv => whnf)
  intro _
  rw [hW1]
  ((repeat ((conv => whnf); first | refine brT ?_ | refine brF ?_)); conv => whnf)
  rw [ew]
  (refine ⟨fun g3 => ?_, fun g3 => ?_⟩ <;> rw [g3])
  · have e : pdB w1 c1 w2 c2 = false := by unfold pdB; rw [g1, g2]; rw [show leI ((w1.length : Int) * (w2.length : Int)) 8 = false by rw [leI_f]; rw [ltI_t] at g3; omega]; rfl
    rw [e]
    ((repeat ((conv => whnf); first | refine brT ?_ | refine brF ?_)); conv => whnf)
    exact ⟨[clsHS 0 0, .bool false], rfl, rfl, .nl [.tmp 0 [0] false 3 1, .tmp 0 [1] false 3 1] [.old 3, .old 4] ⟨⟨rfl, rfl, rfl, rfl, trivial⟩, ⟨rfl, rfl, rfl, rfl, trivial⟩, rfl⟩⟩
  have e : pdB w1 c1 w2 c2 = true := by unfold pdB; rw [g1, g2]; rw [show leI ((w1.length : Int) * (w2.length : Int)) 8 = true by rw [leI_t]; rw [ltI_f] at g3; omega]; rfl
  rw [e]
  have s8 : ∀ a : List Int, permB a = true → a.length ≤ 8 → smallI 8 a := fun a ha hl x hx => by have := perm_small ha x hx; omega
  have sw1 := s8 _ pw n8
  have sw2 := s8 _ qw m8
  have sc1 := s8 _ pc (by omega)
  have sc2 := s8 _ qc (by omega)
  ((repeat ((conv => whnf); first | refine brT ?_ | refine brF ?_)); conv => whnf)
  intro _
  rw [hW1]
  ((repeat ((conv => whnf); first | refine brT ?_ | refine brF ?_)); conv => whnf)
  refine loop_ruleR (α := Nat × Bool) [.old 0, .old 1, .old 2, .old 3] (fun x => [(34, .int .i64 (x.1 : Int)), (8, .undef), (9, .undef)]) (fun x => pdBlk w1 c1 w2 c2 x.1 0 x.2) (fun x => w1.length - x.1) (fun x => x.1 ≤ w1.length ∧ (x.2 = true ↔ 0 < x.1)) (0, false) ⟨Nat.zero_le _, by simp⟩ ?_ ?_
  · refine ⟨?_, ⟨rfl, rfl, rfl, rfl, rfl, rfl, rfl, rfl, trivial⟩, rfl⟩
    ((repeat ((conv => whnf); refine ⟨rfl, rfl, ?_⟩)); trivial)
  rintro ⟨i, _ | _⟩ ⟨hi, hfl⟩
  · simp only at hi hfl
    generalize hK : kk _ = KK
    ((repeat ((conv => whnf); first | refine brT ?_ | refine brF ?_)); conv => whnf)
    (refine ⟨fun t1 => ?_, fun t1 => ?_⟩ <;> rw [t1])
    · have hlt : i < w1.length := by rw [ltI_t] at t1; omega
      have e1 := step_i (n := 40) (k := i) (by omega) (by decide)
      ((repeat ((conv => whnf); first | refine brT ?_ | refine brF ?_)); conv => whnf)
      intro _
      rw [hW2]
      ((repeat ((conv => whnf); first | refine brT ?_ | refine brF ?_)); conv => whnf)
      refine loop_ruleR (α := Nat × Bool) (pdKp false) (fun x => [(40, .int .i64 (x.1 : Int)), (9, .undef)]) (fun x => pdBlk w1 c1 w2 c2 i x.1 x.2) (fun x => w2.length - x.1) (fun x => x.1 ≤ w2.length ∧ (x.2 = true ↔ (0 < i ∨ 0 < x.1))) (0, false) ⟨Nat.zero_le _, by simp at hfl ⊢; omega⟩ ?_ ?_
      · refine ⟨?_, ⟨rfl, rfl, rfl, rfl, rfl, rfl, rfl, rfl, trivial⟩, rfl⟩
        ((repeat ((conv => whnf); refine ⟨rfl, rfl, ?_⟩)); trivial)
      rintro ⟨j, _ | _⟩ ⟨hj, hfj⟩
      · simp only at hj hfj
        generalize hK2 : kk _ = KK2
        ((repeat ((conv => whnf); first | refine brT ?_ | refine brF ?_)); conv => whnf)
        (refine ⟨fun t2 => ?_, fun t2 => ?_⟩ <;> rw [t2])
        · have hlj : j < w2.length := by rw [ltI_t] at t2; omega
          have e2 := step_i (n := 40) (k := j) (by omega) (by decide)
          obtain ⟨x0, x1⟩ := sw1.at hlt
          obtain ⟨y0, y1⟩ := sw2.at hlj
          obtain ⟨u0, u1⟩ := sc1.at (i := i) (by omega)
          obtain ⟨v0, v1⟩ := sc2.at (i := j) (by omega)
          have ew1 := pr_wrap x0 x1 (by omega : (0 : Int) ≤ (w2.length : Int)) (by omega) y0 y1
          have ew2 := pr_wrap u0 u1 (by omega : (0 : Int) ≤ (w2.length : Int)) (by omega) v0 v1
          obtain ⟨rfl, rfl⟩ : i = 0 ∧ j = 0 := by simp at hfj; omega
          have eW : [LV.int .i64 (w1.getD 0 0 * (w2.length : Int) + w2.getD 0 0)] = (pdTo w1 w2 0 1).map intLV := by rw [pdTo_succ hlj, pdTo_zero]; rfl
          have eC : [LV.int .i64 (c1.getD 0 0 * (w2.length : Int) + c2.getD 0 0)] = (pdTo c1 c2 0 1).map intLV := by rw [pdTo_succ (by omega), pdTo_zero, kl]; rfl
          have hic : 0 < c1.length := by omega
          have hjc : 0 < c2.length := by omega
          ((repeat ((conv => whnf); first | refine brT ?_ | refine brF ?_)); conv => whnf)
          refine ⟨false, 0, 0, 3, [0, 1, 2, 3, 4, 5, 6, 7, 8, 9, 10, 11, 12, 13, 14], (.one 15 (.one 16 (.one 17 (.one 18 .done)))), by kernel_rfl, by kernel_rfl, ?_⟩
          ((repeat ((conv => whnf); first | refine brT ?_ | refine brF ?_)); conv => whnf)
          refine ⟨_, intLV (w1.getD _ 0), rfl, by rw [getD_lt hlt]; simp [hlt], rfl, ?_⟩
          ((repeat ((conv => whnf); first | refine brT ?_ | refine brF ?_)); conv => whnf)
          refine ⟨_, intLV (w2.getD _ 0), rfl, by rw [getD_lt hlj]; simp [hlj], rfl, ?_⟩
          ((repeat ((conv => whnf); first | refine brT ?_ | refine brF ?_)); conv => whnf)
          apply Exists.intro
          apply Exists.intro
          refine And.intro ?_ ?_
          · refine Weak.idn ?_ ?_ rfl
            · ((repeat ((conv => whnf); refine ⟨rfl, ?_⟩)); trivial)
            · exact ⟨rfl, rfl, rfl, rfl, rfl, trivial⟩
          ((repeat ((conv => whnf); first | refine brT ?_ | refine brF ?_)); conv => whnf)
          rw [ew1]
          refine ⟨rfl, ?_, ?_, ?_⟩
          · show 1 ≤ Go.maxLen; unfold Go.maxLen; omega
          · show 1 * 8 ≤ _; omega
          rw [eW]
          ((repeat ((conv => whnf); first | refine brT ?_ | refine brF ?_)); conv => whnf)
          refine ⟨false, 0, 0, 3, [0, 1, 2, 3, 4, 5, 6, 7, 8, 9, 10, 11, 12, 13, 14], (.one 15 (.one 16 (.one 17 (.one 18 .done)))), by kernel_rfl, by kernel_rfl, ?_⟩
          ((repeat ((conv => whnf); first | refine brT ?_ | refine brF ?_)); conv => whnf)
          refine ⟨_, intLV (c1.getD _ 0), rfl, by rw [getD_lt hic]; simp [hic], rfl, ?_⟩
          ((repeat ((conv => whnf); first | refine brT ?_ | refine brF ?_)); conv => whnf)
          refine ⟨_, intLV (c2.getD _ 0), rfl, by rw [getD_lt hjc]; simp [hjc], rfl, ?_⟩
          ((repeat ((conv => whnf); first | refine brT ?_ | refine brF ?_)); conv => whnf)
          apply Exists.intro
          apply Exists.intro
          refine And.intro ?_ ?_
          · refine Weak.idn ?_ ?_ rfl
            · ((repeat ((conv => whnf); refine ⟨rfl, ?_⟩)); trivial)
            · exact ⟨rfl, rfl, rfl, rfl, rfl, rfl, rfl, trivial⟩
          ((repeat ((conv => whnf); first | refine brT ?_ | refine brF ?_)); conv => whnf)
          rw [ew2]
          refine ⟨rfl, ?_, ?_, ?_⟩
          · show 1 ≤ Go.maxLen; unfold Go.maxLen; omega
          · show 1 * 8 ≤ _; omega
          rw [eC]
          ((repeat ((conv => whnf); first | refine brT ?_ | refine brF ?_)); conv => whnf)
          subst hK2
          ((repeat ((conv => whnf); first | refine brT ?_ | refine brF ?_)); conv => whnf)
          refine round_endR [.old 0, .old 1, .old 2, .old 3, .old 5, .old 7] (1, true) ⟨hlj, by simp⟩ (by show w2.length - 1 < w2.length - 0; omega) ⟨?_, ⟨rfl, rfl, rfl, rfl, rfl, rfl, rfl, rfl, rfl, rfl, rfl, rfl, trivial⟩, rfl⟩
          ((repeat ((conv => whnf); first | refine ⟨rfl, e2, ?_⟩ | refine ⟨rfl, rfl, ?_⟩)); trivial)
        · exfalso; simp at hfj; rw [ltI_f] at t2; omega
      · simp only at hj hfj
        generalize hK2 : kk _ = KK2
        have hL := pdTo_len (a := w1) (b := w2) (i := i) (j := j) hi hj
        have hL2 := pdTo_len (a := c1) (b := c2) (i := i) (j := j) (by omega) (by omega)
        have hm : i * w2.length ≤ 8 * 8 := Nat.mul_le_mul (by omega) m8
        rw [kl] at hL2
        ((repeat ((conv => whnf); first | refine brT ?_ | refine brF ?_)); conv => whnf)
        (refine ⟨fun t2 => ?_, fun t2 => ?_⟩ <;> rw [t2])
        · have hlj : j < w2.length := by rw [ltI_t] at t2; omega
          have e2 := step_i (n := 40) (k := j) (by omega) (by decide)
          obtain ⟨x0, x1⟩ := sw1.at hlt
          obtain ⟨y0, y1⟩ := sw2.at hlj
          obtain ⟨u0, u1⟩ := sc1.at (i := i) (by omega)
          obtain ⟨v0, v1⟩ := sc2.at (i := j) (by omega)
          have ew1 := pr_wrap x0 x1 (by omega : (0 : Int) ≤ (w2.length : Int)) (by omega) y0 y1
          have ew2 := pr_wrap u0 u1 (by omega : (0 : Int) ≤ (w2.length : Int)) (by omega) v0 v1
          have eW : (pdTo w1 w2 i j).map intLV ++ [LV.int .i64 (w1.getD i 0 * (w2.length : Int) + w2.getD j 0)] = (pdTo w1 w2 i (j + 1)).map intLV := by rw [pdTo_succ hlj, List.map_append]; rfl
          have eC : (pdTo c1 c2 i j).map intLV ++ [LV.int .i64 (c1.getD i 0 * (w2.length : Int) + c2.getD j 0)] = (pdTo c1 c2 i (j + 1)).map intLV := by rw [pdTo_succ (by omega), List.map_append, kl]; rfl
          have hic : i < c1.length := by omega
          have hjc : j < c2.length := by omega
          ((repeat ((conv => whnf); first | refine brT ?_ | refine brF ?_)); conv => whnf)
          refine ⟨false, 0, 0, 3, [0, 1, 2, 3, 4, 5, 6, 7, 8, 9, 10, 11, 12, 13, 14], (.one 15 (.one 16 (.one 17 (.one 18 .done)))), by kernel_rfl, by kernel_rfl, ?_⟩
          ((repeat ((conv => whnf); first | refine brT ?_ | refine brF ?_)); conv => whnf)
          refine ⟨_, intLV (w1.getD _ 0), rfl, by rw [getD_lt hlt]; simp [hlt], rfl, ?_⟩
          ((repeat ((conv => whnf); first | refine brT ?_ | refine brF ?_)); conv => whnf)
          refine ⟨_, intLV (w2.getD _ 0), rfl, by rw [getD_lt hlj]; simp [hlj], rfl, ?_⟩
          ((repeat ((conv => whnf); first | refine brT ?_ | refine brF ?_)); conv => whnf)
          apply Exists.intro
          apply Exists.intro
          refine And.intro ?_ ?_
          · refine Weak.idn ?_ ?_ rfl
            · ((repeat ((conv => whnf); refine ⟨rfl, ?_⟩)); trivial)
            · exact ⟨rfl, rfl, rfl, rfl, rfl, rfl, rfl, trivial⟩
          ((repeat ((conv => whnf); first | refine brT ?_ | refine brF ?_)); conv => whnf)
          rw [ew1]
          refine ⟨rfl, rfl, ?_, ?_, ?_⟩
          · simp [hL]; unfold Go.maxLen; omega
          · simp [hL]; omega
          rw [eW]
          ((repeat ((conv => whnf); first | refine brT ?_ | refine brF ?_)); conv => whnf)
          refine ⟨false, 0, 0, 3, [0, 1, 2, 3, 4, 5, 6, 7, 8, 9, 10, 11, 12, 13, 14], (.one 15 (.one 16 (.one 17 (.one 18 .done)))), by kernel_rfl, by kernel_rfl, ?_⟩
          ((repeat ((conv => whnf); first | refine brT ?_ | refine brF ?_)); conv => whnf)
          refine ⟨_, intLV (c1.getD _ 0), rfl, by rw [getD_lt hic]; simp [hic], rfl, ?_⟩
          ((repeat ((conv => whnf); first | refine brT ?_ | refine brF ?_)); conv => whnf)
          refine ⟨_, intLV (c2.getD _ 0), rfl, by rw [getD_lt hjc]; simp [hjc], rfl, ?_⟩
          ((repeat ((conv => whnf); first | refine brT ?_ | refine brF ?_)); conv => whnf)
          apply Exists.intro
          apply Exists.intro
          refine And.intro ?_ ?_
          · refine Weak.idn ?_ ?_ rfl
            · ((repeat ((conv => whnf); refine ⟨rfl, ?_⟩)); trivial)
            · exact ⟨rfl, rfl, rfl, rfl, rfl, rfl, rfl, rfl, rfl, trivial⟩
          ((repeat ((conv => whnf); first | refine brT ?_ | refine brF ?_)); conv => whnf)
          rw [ew2]
          refine ⟨rfl, rfl, ?_, ?_, ?_⟩
          · simp [hL2]; unfold Go.maxLen; omega
          · simp [hL2]; omega
          rw [eC]
          ((repeat ((conv => whnf); first | refine brT ?_ | refine brF ?_)); conv => whnf)
          subst hK2
          ((repeat ((conv => whnf); first | refine brT ?_ | refine brF ?_)); conv => whnf)
          refine round_endR [.old 0, .old 1, .old 2, .old 3, .old 7, .old 9] (j + 1, true) ⟨hlj, by simp⟩ (by show w2.length - (j + 1) < w2.length - j; omega) ⟨?_, ⟨rfl, rfl, rfl, rfl, rfl, rfl, rfl, rfl, rfl, rfl, rfl, rfl, trivial⟩, rfl⟩
          ((repeat ((conv => whnf); first | refine ⟨rfl, e2, ?_⟩ | refine ⟨rfl, rfl, ?_⟩)); trivial)
        · have h3 : j = w2.length := by rw [ltI_f] at t2; omega
          subst h3
          subst hK2
          subst hK
          ((repeat ((conv => whnf); first | refine brT ?_ | refine brF ?_)); conv => whnf)
          have hR : pdBlk w1 c1 w2 c2 i w2.length true = pdBlk w1 c1 w2 c2 (i + 1) 0 true := by
            have e7 := pdTo_row (a := c1) (b := c2) (i := i) (by omega)
            rw [kl] at e7
            unfold pdBlk
            rw [pdTo_row hlt, e7]
          rw [show pdBlk w1 c1 w2 c2 i (w2.length, true).1 (w2.length, true).2 = pdBlk w1 c1 w2 c2 (i + 1) 0 true from hR]
          refine round_endR [.old 0, .old 1, .old 2, .old 3, .old 4, .old 5] (i + 1, true) ⟨hlt, by simp⟩ (by show w1.length - (i + 1) < w1.length - i; omega) ⟨?_, ⟨rfl, rfl, rfl, rfl, rfl, rfl, rfl, rfl, rfl, rfl, rfl, rfl, trivial⟩, rfl⟩
          ((repeat ((conv => whnf); first | refine ⟨rfl, e1, ?_⟩ | refine ⟨rfl, rfl, ?_⟩)); trivial)
    · exfalso; simp at hfl; rw [ltI_f] at t1; omega
  · simp only at hi hfl
    generalize hK : kk _ = KK
    ((repeat ((conv => whnf); first | refine brT ?_ | refine brF ?_)); conv => whnf)
    (refine ⟨fun t1 => ?_, fun t1 => ?_⟩ <;> rw [t1])
    · have hlt : i < w1.length := by rw [ltI_t] at t1; omega
      have e1 := step_i (n := 40) (k := i) (by omega) (by decide)
      ((repeat ((conv => whnf); first | refine brT ?_ | refine brF ?_)); conv => whnf)
      intro _
      rw [hW2]
      ((repeat ((conv => whnf); first | refine brT ?_ | refine brF ?_)); conv => whnf)
      refine loop_ruleR (α := Nat × Bool) (pdKp true) (fun x => [(40, .int .i64 (x.1 : Int)), (9, .undef)]) (fun x => pdBlk w1 c1 w2 c2 i x.1 x.2) (fun x => w2.length - x.1) (fun x => x.1 ≤ w2.length ∧ (x.2 = true ↔ (0 < i ∨ 0 < x.1))) (0, true) ⟨Nat.zero_le _, by simp at hfl ⊢; omega⟩ ?_ ?_
      · refine ⟨?_, ⟨rfl, rfl, rfl, rfl, rfl, rfl, rfl, rfl, rfl, rfl, rfl, rfl, trivial⟩, rfl⟩
        ((repeat ((conv => whnf); refine ⟨rfl, rfl, ?_⟩)); trivial)
      rintro ⟨j, _ | _⟩ ⟨hj, hfj⟩
      · exfalso; simp at hfj hfl; omega
      · simp only at hj hfj
        generalize hK2 : kk _ = KK2
        have hL := pdTo_len (a := w1) (b := w2) (i := i) (j := j) hi hj
        have hL2 := pdTo_len (a := c1) (b := c2) (i := i) (j := j) (by omega) (by omega)
        have hm : i * w2.length ≤ 8 * 8 := Nat.mul_le_mul (by omega) m8
        rw [kl] at hL2
        ((repeat ((conv => whnf); first | refine brT ?_ | refine brF ?_)); conv => whnf)
        (refine ⟨fun t2 => ?_, fun t2 => ?_⟩ <;> rw [t2])
        · have hlj : j < w2.length := by rw [ltI_t] at t2; omega
          have e2 := step_i (n := 40) (k := j) (by omega) (by decide)
          obtain ⟨x0, x1⟩ := sw1.at hlt
          obtain ⟨y0, y1⟩ := sw2.at hlj
          obtain ⟨u0, u1⟩ := sc1.at (i := i) (by omega)
          obtain ⟨v0, v1⟩ := sc2.at (i := j) (by omega)
          have ew1 := pr_wrap x0 x1 (by omega : (0 : Int) ≤ (w2.length : Int)) (by omega) y0 y1
          have ew2 := pr_wrap u0 u1 (by omega : (0 : Int) ≤ (w2.length : Int)) (by omega) v0 v1
          have eW : (pdTo w1 w2 i j).map intLV ++ [LV.int .i64 (w1.getD i 0 * (w2.length : Int) + w2.getD j 0)] = (pdTo w1 w2 i (j + 1)).map intLV := by rw [pdTo_succ hlj, List.map_append]; rfl
          have eC : (pdTo c1 c2 i j).map intLV ++ [LV.int .i64 (c1.getD i 0 * (w2.length : Int) + c2.getD j 0)] = (pdTo c1 c2 i (j + 1)).map intLV := by rw [pdTo_succ (by omega), List.map_append, kl]; rfl
          have hic : i < c1.length := by omega
          have hjc : j < c2.length := by omega
          ((repeat ((conv => whnf); first | refine brT ?_ | refine brF ?_)); conv => whnf)
          refine ⟨false, 0, 0, 3, [0, 1, 2, 3, 4, 5, 6, 7, 8, 9, 10, 11, 12, 13, 14], (.one 15 (.one 16 (.one 17 (.one 18 .done)))), by kernel_rfl, by kernel_rfl, ?_⟩
          ((repeat ((conv => whnf); first | refine brT ?_ | refine brF ?_)); conv => whnf)
          refine ⟨_, intLV (w1.getD _ 0), rfl, by rw [getD_lt hlt]; simp [hlt], rfl, ?_⟩
          ((repeat ((conv => whnf); first | refine brT ?_ | refine brF ?_)); conv => whnf)
          refine ⟨_, intLV (w2.getD _ 0), rfl, by rw [getD_lt hlj]; simp [hlj], rfl, ?_⟩
          ((repeat ((conv => whnf); first | refine brT ?_ | refine brF ?_)); conv => whnf)
          apply Exists.intro
          apply Exists.intro
          refine And.intro ?_ ?_
          · refine Weak.idn ?_ ?_ rfl
            · ((repeat ((conv => whnf); refine ⟨rfl, ?_⟩)); trivial)
            · exact ⟨rfl, rfl, rfl, rfl, rfl, rfl, rfl, trivial⟩
          ((repeat ((conv => whnf); first | refine brT ?_ | refine brF ?_)); conv => whnf)
          rw [ew1]
          refine ⟨rfl, rfl, ?_, ?_, ?_⟩
          · simp [hL]; unfold Go.maxLen; omega
          · simp [hL]; omega
          rw [eW]
          ((repeat ((conv => whnf); first | refine brT ?_ | refine brF ?_)); conv => whnf)
          refine ⟨false, 0, 0, 3, [0, 1, 2, 3, 4, 5, 6, 7, 8, 9, 10, 11, 12, 13, 14], (.one 15 (.one 16 (.one 17 (.one 18 .done)))), by kernel_rfl, by kernel_rfl, ?_⟩
          ((repeat ((conv => whnf); first | refine brT ?_ | refine brF ?_)); conv => whnf)
          refine ⟨_, intLV (c1.getD _ 0), rfl, by rw [getD_lt hic]; simp [hic], rfl, ?_⟩
          ((repeat ((conv => whnf); first | refine brT ?_ | refine brF ?_)); conv => whnf)
          refine ⟨_, intLV (c2.getD _ 0), rfl, by rw [getD_lt hjc]; simp [hjc], rfl, ?_⟩
          ((repeat ((conv => whnf); first | refine brT ?_ | refine brF ?_)); conv => whnf)
          apply Exists.intro
          apply Exists.intro
          refine And.intro ?_ ?_
          · refine Weak.idn ?_ ?_ rfl
            · ((repeat ((conv => whnf); refine ⟨rfl, ?_⟩)); trivial)
            · exact ⟨rfl, rfl, rfl, rfl, rfl, rfl, rfl, rfl, rfl, trivial⟩
          ((repeat ((conv => whnf); first | refine brT ?_ | refine brF ?_)); conv => whnf)
          rw [ew2]
          refine ⟨rfl, rfl, ?_, ?_, ?_⟩
          · simp [hL2]; unfold Go.maxLen; omega
          · simp [hL2]; omega
          rw [eC]
          ((repeat ((conv => whnf); first | refine brT ?_ | refine brF ?_)); conv => whnf)
          subst hK2
          ((repeat ((conv => whnf); first | refine brT ?_ | refine brF ?_)); conv => whnf)
          refine round_endR [.old 0, .old 1, .old 2, .old 3, .old 7, .old 9] (j + 1, true) ⟨hlj, by simp⟩ (by show w2.length - (j + 1) < w2.length - j; omega) ⟨?_, ⟨rfl, rfl, rfl, rfl, rfl, rfl, rfl, rfl, rfl, rfl, rfl, rfl, trivial⟩, rfl⟩
          ((repeat ((conv => whnf); first | refine ⟨rfl, e2, ?_⟩ | refine ⟨rfl, rfl, ?_⟩)); trivial)
        · have h3 : j = w2.length := by rw [ltI_f] at t2; omega
          subst h3
          subst hK2
          subst hK
          ((repeat ((conv => whnf); first | refine brT ?_ | refine brF ?_)); conv => whnf)
          have hR : pdBlk w1 c1 w2 c2 i w2.length true = pdBlk w1 c1 w2 c2 (i + 1) 0 true := by
            have e7 := pdTo_row (a := c1) (b := c2) (i := i) (by omega)
            rw [kl] at e7
            unfold pdBlk
            rw [pdTo_row hlt, e7]
          rw [show pdBlk w1 c1 w2 c2 i (w2.length, true).1 (w2.length, true).2 = pdBlk w1 c1 w2 c2 (i + 1) 0 true from hR]
          refine round_endR [.old 0, .old 1, .old 2, .old 3, .old 4, .old 5] (i + 1, true) ⟨hlt, by simp⟩ (by show w1.length - (i + 1) < w1.length - i; omega) ⟨?_, ⟨rfl, rfl, rfl, rfl, rfl, rfl, rfl, rfl, rfl, rfl, rfl, rfl, trivial⟩, rfl⟩
          ((repeat ((conv => whnf); first | refine ⟨rfl, e1, ?_⟩ | refine ⟨rfl, rfl, ?_⟩)); trivial)
    · have h3 : i = w1.length := by rw [ltI_f] at t1; omega
      subst h3
      subst hK
      ((repeat ((conv => whnf); first | refine brT ?_ | refine brF ?_)); conv => whnf)
      have e6 := pdTo_all w1 w2
      have e7 := pdTo_all c1 c2
      rw [hl] at e7
      rw [e6, e7]
      exact ⟨[clsHS ((prd w1 w2).map intLV).length ((prd c1 c2).map intLV).length, .bool true], rfl, rfl, .inr ⟨[.old 4, .old 5], ⟨rfl, rfl, rfl, rfl, trivial⟩, ⟨rfl, rfl, rfl, rfl, trivial⟩, rfl⟩⟩
end Go.Proofs.Ytpfipmjmblgjfaa

namespace Go.Proofs.Ytpfipmjmblgjfaa
open Go.Lg Go.Pm
set_option maxHeartbeats 6400000
set_option maxRecDepth 10000
set_option linter.unusedVariables false
set_option linter.unusedSimpArgs false

theorem clsT_f {f : FuncId} {args : List LV} {w c : List Int} {b : Bool} (h : HSpec env.P f args [] (.tup [clsHS (w.map intLV).length (c.map intLV).length, .bool b]) (clsH w c)) : FSpec env.P f args (.tup [.st [rowOw w, rowOw c], .bool b]) :=
  FSpec_of_HSpecT h (by unfold rowOw clsHS clsH; simp [exW, exsW])
theorem flat_clsT (w c : List Int) (b : Bool) : flatT (.tup [.st [rowOw w, rowOw c], .bool b]) = true := by simp [flatT, flatB, rowOw, flatsB, flats_ints]
theorem pdL_len {w1 c1 w2 c2 : List Int} : (pdL (pdB w1 c1 w2 c2) w1 w2).length ≤ 8 ∧ (pdL (pdB w1 c1 w2 c2) c1 c2).length ≤ 8 := by
  cases h : pdB w1 c1 w2 c2
  · simp [pdL]
  · obtain ⟨a, b, c⟩ := pdB_at h
    obtain ⟨n1, n8, hl, pw, pc⟩ := clsB_at a
    obtain ⟨m1, m8, kl, qw, qc⟩ := clsB_at b
    simp only [pdL, prd_len]
    rw [hl, kl]
    exact ⟨c, c⟩
theorem law_productClasses (w c w2 c2 : List Int) (hm : w.length ≤ Go.maxLen ∧ c.length ≤ Go.maxLen) (hm2 : w2.length ≤ Go.maxLen ∧ c2.length ≤ Go.maxLen) : FSpec env.P 9 [clsLV w c, clsLV w2 c2] (.bool true) := by
  refine FSpec_of_code (E := env.x [36, 46, 43] 0) env_ok.x (fn := Try.f9) Try.func9 rfl Try.call9 _ _ ?_
  ((repeat ((conv => whnf); first | refine brT ?_ | refine brF ?_)); conv => whnf)
  refine ⟨_, szClasses_spec w c _, ?_⟩
  ((repeat ((conv => whnf); first | refine brT ?_ | refine brF ?_)); conv => whnf)
  (refine ⟨fun h => ?_, fun h => ?_⟩ <;> rw [h])
  · ((repeat ((conv => whnf); first | refine brT ?_ | refine brF ?_)); conv => whnf); exact fin rfl
  rw [ltI_f] at h
  obtain ⟨es, hs⟩ := szC_ok (by omega) (by omega) hm.1 hm.2 h
  ((repeat ((conv => whnf); first | refine brT ?_ | refine brF ?_)); conv => whnf)
  refine ⟨_, szClasses_spec w2 c2 _, ?_⟩
  ((repeat ((conv => whnf); first | refine brT ?_ | refine brF ?_)); conv => whnf)
  (refine ⟨fun h2 => ?_, fun h2 => ?_⟩ <;> rw [h2])
  · ((repeat ((conv => whnf); first | refine brT ?_ | refine brF ?_)); conv => whnf); exact fin rfl
  rw [ltI_f] at h2
  obtain ⟨es2, hs2⟩ := szC_ok (by omega) (by omega) hm2.1 hm2.2 h2
  have hI := product_impl w c w2 c2 (by omega) (by omega) (by omega) (by omega)
  have hS := clsT_f (product_spec w c w2 c2 (by omega) (by omega) (by omega) (by omega))
  have hF := clsT_f hI
  obtain ⟨hl1, hl2⟩ := pdL_len (w1 := w) (c1 := c) (w2 := w2) (c2 := c2)
  generalize pdL (pdB w c w2 c2) w w2 = W at hI hS hF hl1
  generalize pdL (pdB w c w2 c2) c c2 = C at hI hS hF hl2
  generalize pdB w c w2 c2 = b at hI hS hF
  unfold pdHS at hI
  ((repeat ((conv => whnf); first | refine brT ?_ | refine brF ?_)); conv => whnf)
  refine ⟨true, by kernel_rfl, ?_⟩
  ((repeat ((conv => whnf); first | refine brT ?_ | refine brF ?_)); conv => whnf)
  refine ⟨_, toClasses_f w c (by omega) (by omega), ?_⟩
  ((repeat ((conv => whnf); first | refine brT ?_ | refine brF ?_)); conv => whnf)
  refine ⟨_, toClasses_f w2 c2 (by omega) (by omega), ?_⟩
  ((repeat ((conv => whnf); first | refine brT ?_ | refine brF ?_)); conv => whnf)
  refine ⟨_, hS, ?_⟩
  rw [flat_clsT]
  ((repeat ((conv => whnf); first | refine brT ?_ | refine brF ?_)); conv => whnf)
  refine ⟨[], _, _, _, _, toClasses_h w c (by omega) (by omega), rfl, rfl, rfl, trivial, ?_⟩
  ((repeat ((conv => whnf); first | refine brT ?_ | refine brF ?_)); conv => whnf)
  refine ⟨[], _, _, _, _, toClasses_h w2 c2 (by omega) (by omega), rfl, rfl, rfl, trivial, ?_⟩
  ((repeat ((conv => whnf); first | refine brT ?_ | refine brF ?_)); conv => whnf)
  refine ⟨[], _, _, _, _, hI, rfl, ?_⟩
  ((repeat ((conv => whnf); first | refine brT ?_ | refine brF ?_)); conv => whnf)
  refine ⟨rfl, ?_⟩
  ((repeat ((conv => whnf); first | refine brT ?_ | refine brF ?_)); conv => whnf)
  refine ⟨rfl, ?_⟩
  ((repeat ((conv => whnf); first | refine brT ?_ | refine brF ?_)); conv => whnf)
  refine ⟨rfl, ?_⟩
  ((repeat ((conv => whnf); first | refine brT ?_ | refine brF ?_)); conv => whnf)
  refine ⟨rfl, ?_⟩
  ((repeat ((conv => whnf); first | refine brT ?_ | refine brF ?_)); conv => whnf)
  refine ⟨rfl, rfl, ⟨rfl, flats_ints _, flats_ints _, trivial⟩, ?_⟩
  ((repeat ((conv => whnf); first | refine brT ?_ | refine brF ?_)); conv => whnf)
  refine ⟨rfl, ?_⟩
  ((repeat ((conv => whnf); first | refine brT ?_ | refine brF ?_)); conv => whnf)
  refine ⟨rfl, ?_⟩
  ((repeat ((conv => whnf); first | refine brT ?_ | refine brF ?_)); conv => whnf)
  refine ⟨_, eqClasses_spec W C W C, ?_⟩
  rw [eqCls_refl]
  ((repeat ((conv => whnf); first | refine brT ?_ | refine brF ?_)); conv => whnf)
  rw [show notB true = false by simp [notB]]
  ((repeat ((conv => whnf); first | refine brT ?_ | refine brF ?_)); conv => whnf)
  rw [show notB (eqB (b) (b)) = false by simp [notB, eqB_refl]]
  ((repeat ((conv => whnf); first | refine brT ?_ | refine brF ?_)); conv => whnf)
  refine ⟨true, by kernel_rfl, ?_⟩
  ((repeat ((conv => whnf); first | refine brT ?_ | refine brF ?_)); conv => whnf)
  refine ⟨_, toClasses_f w c (by omega) (by omega), ?_⟩
  ((repeat ((conv => whnf); first | refine brT ?_ | refine brF ?_)); conv => whnf)
  refine ⟨rfl, ?_⟩
  ((repeat ((conv => whnf); first | refine brT ?_ | refine brF ?_)); conv => whnf)
  refine ⟨rfl, ?_⟩
  ((repeat ((conv => whnf); first | refine brT ?_ | refine brF ?_)); conv => whnf)
  refine ⟨_, eqClasses_spec w c w c, ?_⟩
  rw [eqCls_refl]
  ((repeat ((conv => whnf); first | refine brT ?_ | refine brF ?_)); conv => whnf)
  rw [show notB true = false by simp [notB]]
  ((repeat ((conv => whnf); first | refine brT ?_ | refine brF ?_)); conv => whnf)
  refine ⟨true, by kernel_rfl, ?_⟩
  ((repeat ((conv => whnf); first | refine brT ?_ | refine brF ?_)); conv => whnf)
  refine ⟨_, toClasses_f w2 c2 (by omega) (by omega), ?_⟩
  ((repeat ((conv => whnf); first | refine brT ?_ | refine brF ?_)); conv => whnf)
  refine ⟨rfl, ?_⟩
  ((repeat ((conv => whnf); first | refine brT ?_ | refine brF ?_)); conv => whnf)
  refine ⟨rfl, ?_⟩
  ((repeat ((conv => whnf); first | refine brT ?_ | refine brF ?_)); conv => whnf)
  refine ⟨_, eqClasses_spec w2 c2 w2 c2, ?_⟩
  rw [eqCls_refl]
  ((repeat ((conv => whnf); first | refine brT ?_ | refine brF ?_)); conv => whnf)
  rw [show notB true = false by simp [notB]]
  ((repeat ((conv => whnf); first | refine brT ?_ | refine brF ?_)); conv => whnf)
  refine ⟨[3, 4], _, _, _, _, markClasses_spec w c _ _ rfl rfl 1 (by omega) (by omega), rfl, rfl, rfl, trivial, ?_⟩
  ((repeat ((conv => whnf); first | refine brT ?_ | refine brF ?_)); conv => whnf)
  refine ⟨[6, 7], _, _, _, _, markClasses_spec w2 c2 _ _ rfl rfl (1 + (w.length : Int) + (c.length : Int)) (by omega) (by omega), rfl, rfl, rfl, trivial, ?_⟩
  ((repeat ((conv => whnf); first | refine brT ?_ | refine brF ?_)); conv => whnf)
  rw [show ltI (1 + (w.length : Int) + (c.length : Int) + (w2.length : Int) + (c2.length : Int)) 0 = false by rw [ltI_f]; omega]
  ((repeat ((conv => whnf); first | refine brT ?_ | refine brF ?_)); conv => whnf)
  refine ⟨rfl, ?_⟩
  ((repeat ((conv => whnf); first | refine brT ?_ | refine brF ?_)); conv => whnf)
  refine ⟨rfl, ?_⟩
  ((repeat ((conv => whnf); first | refine brT ?_ | refine brF ?_)); conv => whnf)
  refine ⟨_, eqClasses_spec W C W C, ?_⟩
  rw [eqCls_refl]
  ((repeat ((conv => whnf); first | refine brT ?_ | refine brF ?_)); conv => whnf)
  rw [show notB true = false by simp [notB]]
  ((repeat ((conv => whnf); first | refine brT ?_ | refine brF ?_)); conv => whnf)
  rw [show notB (eqB (b) (b)) = false by simp [notB, eqB_refl]]
  ((repeat ((conv => whnf); first | refine brT ?_ | refine brF ?_)); conv => whnf)
  refine ⟨[9, 10], _, _, _, _, markClasses_spec W C _ _ rfl rfl 1 (by omega) (by omega), rfl, rfl, rfl, trivial, ?_⟩
  ((repeat ((conv => whnf); first | refine brT ?_ | refine brF ?_)); conv => whnf)
  refine ⟨by simp [marks_len], ?_⟩
  ((repeat ((conv => whnf); first | refine brT ?_ | refine brF ?_)); conv => whnf)
  refine ⟨by simp [marks_len], ?_⟩
  ((repeat ((conv => whnf); first | refine brT ?_ | refine brF ?_)); conv => whnf)
  refine ⟨_, heldClasses_spec 1 W.length C.length (by omega) (by omega), ?_⟩
  ((repeat ((conv => whnf); first | refine brT ?_ | refine brF ?_)); conv => whnf)
  rw [show ltI (1 + (W.length : Int) + (C.length : Int)) 0 = false by rw [ltI_f]; omega]
  ((repeat ((conv => whnf); first | refine brT ?_ | refine brF ?_)); conv => whnf)
  rw [show notB (eqI (1 + (W.length : Int) + (C.length : Int)) (1 + (W.length : Int) + (C.length : Int))) = false by simp [notB, eqI_refl]]
  ((repeat ((conv => whnf); first | refine brT ?_ | refine brF ?_)); conv => whnf)
  refine ⟨true, by kernel_rfl, ?_⟩
  ((repeat ((conv => whnf); first | refine brT ?_ | refine brF ?_)); conv => whnf)
  refine ⟨_, toClasses_f w c (by omega) (by omega), ?_⟩
  ((repeat ((conv => whnf); first | refine brT ?_ | refine brF ?_)); conv => whnf)
  refine ⟨_, toClasses_f w2 c2 (by omega) (by omega), ?_⟩
  ((repeat ((conv => whnf); first | refine brT ?_ | refine brF ?_)); conv => whnf)
  refine ⟨_, hF, ?_⟩
  rw [flat_clsT]
  ((repeat ((conv => whnf); first | refine brT ?_ | refine brF ?_)); conv => whnf)
  refine ⟨_, eqClasses_spec W C W C, ?_⟩
  rw [eqCls_refl]
  ((repeat ((conv => whnf); first | refine brT ?_ | refine brF ?_)); conv => whnf)
  rw [show notB true = false by simp [notB]]
  ((repeat ((conv => whnf); first | refine brT ?_ | refine brF ?_)); conv => whnf)
  rw [show notB (eqB (b) (b)) = false by simp [notB, eqB_refl]]
  ((repeat ((conv => whnf); first | refine brT ?_ | refine brF ?_)); conv => whnf)
  refine ⟨by simp [marks_len], ?_⟩
  ((repeat ((conv => whnf); first | refine brT ?_ | refine brF ?_)); conv => whnf)
  refine ⟨by simp [marks_len], ?_⟩
  ((repeat ((conv => whnf); first | refine brT ?_ | refine brF ?_)); conv => whnf)
  refine ⟨_, heldClasses_spec 1 W.length C.length (by omega) (by omega), ?_⟩
  ((repeat ((conv => whnf); first | refine brT ?_ | refine brF ?_)); conv => whnf)
  rw [show ltI (1 + (W.length : Int) + (C.length : Int)) 0 = false by rw [ltI_f]; omega]
  ((repeat ((conv => whnf); first | refine brT ?_ | refine brF ?_)); conv => whnf)
  rw [show notB (eqI (1 + (W.length : Int) + (C.length : Int)) (1 + (W.length : Int) + (C.length : Int))) = false by simp [notB, eqI_refl]]
  ((repeat ((conv => whnf); first | refine brT ?_ | refine brF ?_)); conv => whnf)
  exact fin rfl
end Go.Proofs.Ytpfipmjmblgjfaa

namespace Go.Proofs.Ytpfipmjmblgjfaa
open Go.Lg Go.Pm
set_option maxHeartbeats 6400000
set_option maxRecDepth 10000
set_option linter.unusedVariables false
set_option linter.unusedSimpArgs false

/-! ### Other names -/
theorem relabeled1_h (q o p : List Int) (h1 : q.length ≤ 1048576) (h2 : o.length ≤ 1048576) (h3 : p.length ≤ 1048576) : HSpec env.P 160 [rowSl q, .ref (rowSl o), .ref (rowSl p)] [] (.hs 0 ((cmpL (cmpL o q) p).map intLV).length) [.arr 3 1 ((cmpL (cmpL o q) p).map intLV)] := by
  have c1 := compose_impl o q (by omega) (by omega)
  have hl := cmpL_len o q
  generalize cmpL o q = r at c1 hl ⊢
  have c2 := compose_impl r p (by omega) (by omega)
  generalize cmpL r p = t at c2 ⊢
  refine HSpec_of_code (E := env.x [33] 0) env_ok.x (fn := Try.f160) Try.func160 rfl Try.call160 _ _ _ _ ?_
  ((repeat ((conv => whnf); first | refine brT ?_ | refine brF ?_)); conv => whnf)
  refine ⟨false, 0, 0, 1, [0, 1, 3], (.one 2 (.one 4 (.one 5 .done))), by kernel_rfl, by kernel_rfl, ?_⟩
  ((repeat ((conv => whnf); first | refine brT ?_ | refine brF ?_)); conv => whnf)
  apply Exists.intro
  apply Exists.intro
  refine And.intro ?_ ?_
  · refine ⟨_, _, _, _, c1, rfl, rfl, rfl, trivial, ?_⟩
    ((repeat ((conv => whnf); first | refine brT ?_ | refine brF ?_)); conv => whnf)
    refine ⟨_, _, _, _, c2, rfl, rfl, rfl, rfl, ⟨rfl, flats_ints _, trivial⟩, ?_⟩
    ((repeat ((conv => whnf); first | refine brT ?_ | refine brF ?_)); conv => whnf)
    refine Weak.idn ?_ ?_ rfl
    · ((repeat ((conv => whnf); refine ⟨rfl, ?_⟩)); trivial)
    · exact ⟨rfl, rfl, trivial⟩
  ((repeat ((conv => whnf); first | refine brT ?_ | refine brF ?_)); conv => whnf)
  exact ⟨[.hs 0 (t.map intLV).length], by simp [tupOf], rfl, .inr ⟨[.old 1], ⟨rfl, rfl, trivial⟩, ⟨rfl, rfl, trivial⟩, rfl⟩⟩
end Go.Proofs.Ytpfipmjmblgjfaa

namespace Go.Proofs.Ytpfipmjmblgjfaa
open Go.Lg Go.Pm
set_option maxHeartbeats 6400000
set_option maxRecDepth 10000
set_option linter.unusedVariables false
set_option linter.unusedSimpArgs false

/-- The systems under other names. -/
theorem relabeled_h (w c p : List Int) (h1 : w.length ≤ 1048576) (h2 : c.length ≤ 1048576) (h3 : p.length ≤ 1048576) :
    HSpec env.P 106 [clsLV w c, rowSl p] [] (clsHS ((cmpL (cmpL (invL p) w) p).map intLV).length ((cmpL (cmpL (invL p) c) p).map intLV).length) (clsH (cmpL (cmpL (invL p) w) p) (cmpL (cmpL (invL p) c) p)) := by
  have hi := ints_f (inv_impl p (by omega))
  have hl := invL_len p
  generalize invL p = o at hi hl ⊢
  have c1 := relabeled1_h w o p h1 (by omega) h3
  have c2 := relabeled1_h c o p h2 (by omega) h3
  generalize cmpL (cmpL o w) p = r at c1 ⊢
  generalize cmpL (cmpL o c) p = t at c2 ⊢
  refine HSpec_of_code (E := env.x [160] 0) env_ok.x (fn := Try.f106) Try.func106 rfl Try.call106 _ _ _ _ ?_
  ((repeat ((conv => whnf); first | refine brT ?_ | refine brF ?_)); conv => whnf)
  refine ⟨_, hi, ?_⟩
  ((repeat ((conv => whnf); first | refine brT ?_ | refine brF ?_)); conv => whnf)
  refine ⟨false, 0, 0, 2, [0, 1, 2, 4, 5, 6], (.one 3 (.one 7 (.one 8 (.one 9 .done)))), by kernel_rfl, by kernel_rfl, ?_⟩
  ((repeat ((conv => whnf); first | refine brT ?_ | refine brF ?_)); conv => whnf)
  apply Exists.intro
  apply Exists.intro
  refine And.intro ?_ ?_
  · refine ⟨_, _, _, _, c1, rfl, rfl, rfl, ⟨rfl, flats_ints _, trivial⟩, ?_⟩
    ((repeat ((conv => whnf); first | refine brT ?_ | refine brF ?_)); conv => whnf)
    refine ⟨_, _, _, _, c2, rfl, rfl, rfl, ⟨rfl, flats_ints _, trivial⟩, ?_⟩
    ((repeat ((conv => whnf); first | refine brT ?_ | refine brF ?_)); conv => whnf)
    refine Weak.idn ?_ ?_ rfl
    · ((repeat ((conv => whnf); refine ⟨rfl, ?_⟩)); trivial)
    · exact ⟨rfl, rfl, rfl, rfl, rfl, rfl, trivial⟩
  ((repeat ((conv => whnf); first | refine brT ?_ | refine brF ?_)); conv => whnf)
  exact ⟨[clsHS (r.map intLV).length (t.map intLV).length], by simp [tupOf], rfl, .inr ⟨[.old 4, .old 5], ⟨rfl, rfl, trivial⟩, ⟨rfl, rfl, rfl, rfl, trivial⟩, rfl⟩⟩
end Go.Proofs.Ytpfipmjmblgjfaa

namespace Go.Proofs.Ytpfipmjmblgjfaa
open Go.Lg Go.Pm
set_option maxHeartbeats 6400000
set_option maxRecDepth 10000
set_option linter.unusedVariables false
set_option linter.unusedSimpArgs false

theorem mapI_get {l : List Int} {i : Nat} (h : i < l.length) : (l.map intLV)[i]? = some (intLV (l.getD i 0)) := by rw [getD_lt h, List.getElem?_map, List.getElem?_eq_getElem h]; rfl
def rlv (w p : List Int) (k : Nat) : List Int := plv (fun j => p.getD (w.getD j 0).toNat 0) p p.length k
theorem rlv_len (w p : List Int) (k : Nat) : (rlv w p k).length = p.length := plv_len _ _ _ _
theorem rlv_zero (w p : List Int) : (rlv w p 0).map intLV = List.replicate p.length (LV.int .i64 0) := by simp [rlv, plv, intLV]
theorem rlv_set {w p : List Int} {k : Nat} : ((rlv w p k).map intLV).set (p.getD k 0).toNat (.int .i64 (p.getD (w.getD k 0).toNat 0)) = (rlv w p (k + 1)).map intLV := by
  show _ = ((rlv w p k).set (p.getD k 0).toNat (p.getD (w.getD k 0).toNat 0)).map intLV
  rw [List.map_set]; rfl
theorem rlv_all {w p : List Int} (hp : permB p = true) (hw : permB w = true) (hl : w.length = p.length) : rlv w p p.length = rel w p := plv_rel hp hw hl
theorem l6Relabel_h (w c p : List Int) (hw : permB w = true) (hc : permB c = true) (hp : permB p = true) (lw : w.length = p.length) (lc : c.length = p.length) (n8 : p.length ≤ 8) :
    HSpec env.P 105 [clsLV w c, rowSl p] [] (clsHS ((rel w p).map intLV).length ((rel c p).map intLV).length) (clsH (rel w p) (rel c p)) := by
  refine HSpec_of_code (E := env.x [] 0) env_ok.x (fn := Try.f105) Try.func105 rfl Try.call105 _ _ _ _ ?_
  have hP : (p.map intLV).length = p.length := List.length_map ..
  have hWl : ∀ k, ((rlv w p k).map intLV).length = p.length := fun k => by rw [List.length_map, rlv_len]
  have hCl : ∀ k, ((rlv c p k).map intLV).length = p.length := fun k => by rw [List.length_map, rlv_len]
  ((repeat ((conv => whnf); first | refine brT ?_ | refine brF ?_)); conv => whnf)
  intro _
  rw [hP]
  ((repeat ((conv => whnf); first | refine brT ?_ | refine brF ?_)); conv => whnf)
  refine ⟨false, 0, 0, 0, [0, 2], (.alt 1 (.alt 3 (.alt 4 (.one 5 (.one 6 .done)) (.one 5 (.one 4 (.one 6 .done)))) (.one 5 (.one 3 (.one 4 (.one 6 .done))))) (.alt 3 (.alt 1 (.alt 4 (.one 5 (.one 6 .done)) (.one 5 (.one 4 (.one 6 .done)))) (.one 5 (.one 1 (.one 4 (.one 6 .done))))) (.one 5 (.alt 1 (.one 3 (.one 4 (.one 6 .done))) (.one 3 (.one 1 (.one 4 (.one 6 .done)))))))), by kernel_rfl, ?_⟩
  ((repeat ((conv => whnf); first | refine brT ?_ | refine brF ?_)); conv => whnf)
  apply Exists.intro
  apply Exists.intro
  refine And.intro ?_ ?_
  · ((repeat ((conv => whnf); first | refine brT ?_ | refine brF ?_)); conv => whnf)
    refine And.intro ?_ ?_
    · ((repeat ((conv => whnf); first | refine brT ?_ | refine brF ?_)); conv => whnf)
      refine ⟨p.length, by simp, by simp, by show 8 * p.length ≤ _; omega, by unfold Go.maxLen; omega, rfl, by decide, ?_⟩
      ((repeat ((conv => whnf); first | refine brT ?_ | refine brF ?_)); conv => whnf)
      refine And.intro ?_ ?_
      · ((repeat ((conv => whnf); first | refine brT ?_ | refine brF ?_)); conv => whnf)
        refine ⟨p.length, by simp, by simp, by show 8 * p.length ≤ _; omega, by unfold Go.maxLen; omega, rfl, by decide, ?_⟩
        ((repeat ((conv => whnf); first | refine brT ?_ | refine brF ?_)); conv => whnf)
        refine And.intro ?_ ?_
        · ((repeat ((conv => whnf); first | refine brT ?_ | refine brF ?_)); conv => whnf)
          ((repeat ((conv => whnf); first | refine brT ?_ | refine brF ?_)); conv => whnf)
          ((repeat ((conv => whnf); first | refine brT ?_ | refine brF ?_)); conv => whnf)
          refine Weak.idn ?_ ?_ rfl
          · ((repeat ((conv => whnf); refine ⟨rfl, ?_⟩)); trivial)
          · exact ⟨rfl, rfl, rfl, rfl, rfl, trivial⟩
        · ((repeat ((conv => whnf); first | refine brT ?_ | refine brF ?_)); conv => whnf)
          ((repeat ((conv => whnf); first | refine brT ?_ | refine brF ?_)); conv => whnf)
          ((repeat ((conv => whnf); first | refine brT ?_ | refine brF ?_)); conv => whnf)
          refine .inr ⟨[.old 0, .old 1, .old 2, .old 3, .old 4], ?_, ⟨rfl, rfl, rfl, rfl, rfl, rfl, rfl, rfl, rfl, rfl, trivial⟩, rfl⟩
          ((repeat ((conv => whnf); refine ⟨rfl, rfl, ?_⟩)); trivial)
      · ((repeat ((conv => whnf); first | refine brT ?_ | refine brF ?_)); conv => whnf)
        ((repeat ((conv => whnf); first | refine brT ?_ | refine brF ?_)); conv => whnf)
        refine ⟨p.length, by simp, by simp, by show 8 * p.length ≤ _; omega, by unfold Go.maxLen; omega, rfl, by decide, ?_⟩
        ((repeat ((conv => whnf); first | refine brT ?_ | refine brF ?_)); conv => whnf)
        ((repeat ((conv => whnf); first | refine brT ?_ | refine brF ?_)); conv => whnf)
        refine .inr ⟨[.old 0, .old 1, .old 2, .old 4, .old 3], ?_, ⟨rfl, rfl, rfl, rfl, rfl, rfl, rfl, rfl, rfl, rfl, trivial⟩, rfl⟩
        ((repeat ((conv => whnf); refine ⟨rfl, rfl, ?_⟩)); trivial)
    · refine And.intro ?_ ?_
      · ((repeat ((conv => whnf); first | refine brT ?_ | refine brF ?_)); conv => whnf)
        refine ⟨p.length, by simp, by simp, by show 8 * p.length ≤ _; omega, by unfold Go.maxLen; omega, rfl, by decide, ?_⟩
        ((repeat ((conv => whnf); first | refine brT ?_ | refine brF ?_)); conv => whnf)
        refine And.intro ?_ ?_
        · ((repeat ((conv => whnf); first | refine brT ?_ | refine brF ?_)); conv => whnf)
          refine ⟨p.length, by simp, by simp, by show 8 * p.length ≤ _; omega, by unfold Go.maxLen; omega, rfl, by decide, ?_⟩
          ((repeat ((conv => whnf); first | refine brT ?_ | refine brF ?_)); conv => whnf)
          refine And.intro ?_ ?_
          · ((repeat ((conv => whnf); first | refine brT ?_ | refine brF ?_)); conv => whnf)
            ((repeat ((conv => whnf); first | refine brT ?_ | refine brF ?_)); conv => whnf)
            ((repeat ((conv => whnf); first | refine brT ?_ | refine brF ?_)); conv => whnf)
            refine .inr ⟨[.old 0, .old 1, .old 3, .old 2, .old 4], ?_, ⟨rfl, rfl, rfl, rfl, rfl, rfl, rfl, rfl, rfl, rfl, trivial⟩, rfl⟩
            ((repeat ((conv => whnf); refine ⟨rfl, rfl, ?_⟩)); trivial)
          · ((repeat ((conv => whnf); first | refine brT ?_ | refine brF ?_)); conv => whnf)
            ((repeat ((conv => whnf); first | refine brT ?_ | refine brF ?_)); conv => whnf)
            ((repeat ((conv => whnf); first | refine brT ?_ | refine brF ?_)); conv => whnf)
            refine .inr ⟨[.old 0, .old 1, .old 3, .old 2, .old 4], ?_, ⟨rfl, rfl, rfl, rfl, rfl, rfl, rfl, rfl, rfl, rfl, trivial⟩, rfl⟩
            ((repeat ((conv => whnf); refine ⟨rfl, rfl, ?_⟩)); trivial)
        · ((repeat ((conv => whnf); first | refine brT ?_ | refine brF ?_)); conv => whnf)
          ((repeat ((conv => whnf); first | refine brT ?_ | refine brF ?_)); conv => whnf)
          refine ⟨p.length, by simp, by simp, by show 8 * p.length ≤ _; omega, by unfold Go.maxLen; omega, rfl, by decide, ?_⟩
          ((repeat ((conv => whnf); first | refine brT ?_ | refine brF ?_)); conv => whnf)
          ((repeat ((conv => whnf); first | refine brT ?_ | refine brF ?_)); conv => whnf)
          refine .inr ⟨[.old 0, .old 1, .old 4, .old 2, .old 3], ?_, ⟨rfl, rfl, rfl, rfl, rfl, rfl, rfl, rfl, rfl, rfl, trivial⟩, rfl⟩
          ((repeat ((conv => whnf); refine ⟨rfl, rfl, ?_⟩)); trivial)
      · ((repeat ((conv => whnf); first | refine brT ?_ | refine brF ?_)); conv => whnf)
        ((repeat ((conv => whnf); first | refine brT ?_ | refine brF ?_)); conv => whnf)
        refine And.intro ?_ ?_
        · ((repeat ((conv => whnf); first | refine brT ?_ | refine brF ?_)); conv => whnf)
          refine ⟨p.length, by simp, by simp, by show 8 * p.length ≤ _; omega, by unfold Go.maxLen; omega, rfl, by decide, ?_⟩
          ((repeat ((conv => whnf); first | refine brT ?_ | refine brF ?_)); conv => whnf)
          refine ⟨p.length, by simp, by simp, by show 8 * p.length ≤ _; omega, by unfold Go.maxLen; omega, rfl, by decide, ?_⟩
          ((repeat ((conv => whnf); first | refine brT ?_ | refine brF ?_)); conv => whnf)
          ((repeat ((conv => whnf); first | refine brT ?_ | refine brF ?_)); conv => whnf)
          refine .inr ⟨[.old 0, .old 1, .old 3, .old 4, .old 2], ?_, ⟨rfl, rfl, rfl, rfl, rfl, rfl, rfl, rfl, rfl, rfl, trivial⟩, rfl⟩
          ((repeat ((conv => whnf); refine ⟨rfl, rfl, ?_⟩)); trivial)
        · ((repeat ((conv => whnf); first | refine brT ?_ | refine brF ?_)); conv => whnf)
          refine ⟨p.length, by simp, by simp, by show 8 * p.length ≤ _; omega, by unfold Go.maxLen; omega, rfl, by decide, ?_⟩
          ((repeat ((conv => whnf); first | refine brT ?_ | refine brF ?_)); conv => whnf)
          refine ⟨p.length, by simp, by simp, by show 8 * p.length ≤ _; omega, by unfold Go.maxLen; omega, rfl, by decide, ?_⟩
          ((repeat ((conv => whnf); first | refine brT ?_ | refine brF ?_)); conv => whnf)
          ((repeat ((conv => whnf); first | refine brT ?_ | refine brF ?_)); conv => whnf)
          refine .inr ⟨[.old 0, .old 1, .old 4, .old 3, .old 2], ?_, ⟨rfl, rfl, rfl, rfl, rfl, rfl, rfl, rfl, rfl, rfl, trivial⟩, rfl⟩
          ((repeat ((conv => whnf); refine ⟨rfl, rfl, ?_⟩)); trivial)
  ((repeat ((conv => whnf); first | refine brT ?_ | refine brF ?_)); conv => whnf)
  intro _
  rw [hP]
  ((repeat ((conv => whnf); first | refine brT ?_ | refine brF ?_)); conv => whnf)
  have z1 := rlv_zero w p
  have z2 := rlv_zero c p
  refine loop_ruleR (α := Nat) [.old 0, .old 1, .old 2, .old 3, .old 4] (fun k => [(17, .int .i64 (k : Int)), (7, .undef)]) (fun k => [.box (clsLV w c), .box (.st [.nil, .nil]), .arr 3 1 ((rlv w p k).map intLV), .arr 3 1 ((rlv c p k).map intLV), .box (.st [.hs 2 p.length, .hs 3 p.length])]) (fun k => p.length - k) (fun k => k ≤ p.length) 0 (Nat.zero_le _) ?_ ?_
  · refine ⟨?_, ⟨rfl, rfl, rfl, rfl, rfl, congrArg (Blk.arr 3 1) z1.symm, rfl, congrArg (Blk.arr 3 1) z2.symm, rfl, rfl, trivial⟩, rfl⟩
    ((repeat ((conv => whnf); refine ⟨rfl, rfl, ?_⟩)); trivial)
  intro k hk
  generalize hK : kk _ = KK
  ((repeat ((conv => whnf); first | refine brT ?_ | refine brF ?_)); conv => whnf)
  (refine ⟨fun t1 => ?_, fun t1 => ?_⟩ <;> rw [t1])
  · have hlt : k < p.length := by rw [ltI_t] at t1; omega
    have e1 := step_i (n := 40) (k := k) (by omega) (by decide)
    have hpk := perm_in hp hlt
    have hwk := perm_in hw (show k < w.length by omega)
    have hck := perm_in hc (show k < c.length by omega)
    rw [← getD_lt (d := 0) hlt] at hpk
    rw [← getD_lt (d := 0) (show k < w.length by omega)] at hwk
    rw [← getD_lt (d := 0) (show k < c.length by omega)] at hck
    have w2 : (w.getD k 0).toNat < p.length := by omega
    have c2 : (c.getD k 0).toNat < p.length := by omega
    have w3 : (p.getD k 0).toNat < (rlv w p k).length := by rw [rlv_len]; omega
    have c3 : (p.getD k 0).toNat < (rlv c p k).length := by rw [rlv_len]; omega
    ((repeat ((conv => whnf); first | refine brT ?_ | refine brF ?_)); conv => whnf)
    refine ⟨false, 14, by kernel_rfl, ?_⟩
    ((repeat ((conv => whnf); first | refine brT ?_ | refine brF ?_)); conv => whnf)
    refine ⟨k, intLV (p.getD k 0), rfl, mapI_get hlt, rfl, ?_⟩
    ((repeat ((conv => whnf); first | refine brT ?_ | refine brF ?_)); conv => whnf)
    refine ⟨k, intLV (w.getD k 0), rfl, mapI_get (by omega), rfl, ?_⟩
    ((repeat ((conv => whnf); first | refine brT ?_ | refine brF ?_)); conv => whnf)
    refine ⟨(w.getD k 0).toNat, intLV (p.getD (w.getD k 0).toNat 0), by omega, mapI_get w2, rfl, ?_⟩
    ((repeat ((conv => whnf); first | refine brT ?_ | refine brF ?_)); conv => whnf)
    refine ⟨(hWl k).symm, rfl, (p.getD k 0).toNat, by omega, by rw [hWl]; omega, ?_⟩
    ((repeat ((conv => whnf); first | refine brT ?_ | refine brF ?_)); conv => whnf)
    refine ⟨(hWl k).symm, (p.getD k 0).toNat, [], intLV ((rlv w p k).getD (p.getD k 0).toNat 0), rfl, by simp only [getP]; rw [mapI_get w3], rfl, rfl, rfl, (rlv w p (k + 1)).map intLV, by rw [mapI_get w3]; exact rlv_set, ?_⟩
    ((repeat ((conv => whnf); first | refine brT ?_ | refine brF ?_)); conv => whnf)
    refine ⟨false, 14, by kernel_rfl, ?_⟩
    ((repeat ((conv => whnf); first | refine brT ?_ | refine brF ?_)); conv => whnf)
    refine ⟨k, intLV (p.getD k 0), rfl, mapI_get hlt, rfl, ?_⟩
    ((repeat ((conv => whnf); first | refine brT ?_ | refine brF ?_)); conv => whnf)
    refine ⟨k, intLV (c.getD k 0), rfl, mapI_get (by omega), rfl, ?_⟩
    ((repeat ((conv => whnf); first | refine brT ?_ | refine brF ?_)); conv => whnf)
    refine ⟨(c.getD k 0).toNat, intLV (p.getD (c.getD k 0).toNat 0), by omega, mapI_get c2, rfl, ?_⟩
    ((repeat ((conv => whnf); first | refine brT ?_ | refine brF ?_)); conv => whnf)
    refine ⟨(hCl k).symm, rfl, (p.getD k 0).toNat, by omega, by rw [hCl]; omega, ?_⟩
    ((repeat ((conv => whnf); first | refine brT ?_ | refine brF ?_)); conv => whnf)
    refine ⟨(hCl k).symm, (p.getD k 0).toNat, [], intLV ((rlv c p k).getD (p.getD k 0).toNat 0), rfl, by simp only [getP]; rw [mapI_get c3], rfl, rfl, rfl, (rlv c p (k + 1)).map intLV, by rw [mapI_get c3]; exact rlv_set, ?_⟩
    ((repeat ((conv => whnf); first | refine brT ?_ | refine brF ?_)); conv => whnf)
    subst hK
    refine round_endR [.old 0, .old 1, .old 2, .old 3, .old 4] (k + 1) hlt (by omega) ⟨?_, ⟨rfl, rfl, rfl, rfl, rfl, rfl, rfl, rfl, rfl, rfl, trivial⟩, rfl⟩
    ((repeat ((conv => whnf); first | refine ⟨rfl, e1, ?_⟩ | refine ⟨rfl, rfl, ?_⟩)); trivial)
  · have h3 : k = p.length := by rw [ltI_f] at t1; omega
    subst h3
    subst hK
    ((repeat ((conv => whnf); first | refine brT ?_ | refine brF ?_)); conv => whnf)
    rw [rlv_all hp hw lw, rlv_all hp hc lc]
    have r1 : ((rel w p).map intLV).length = p.length := by rw [List.length_map, rel_len]
    have r2 : ((rel c p).map intLV).length = p.length := by rw [List.length_map, rel_len]
    rw [r1, r2]
    exact ⟨[clsHS p.length p.length], by simp [tupOf], rfl, .inr ⟨[.old 2, .old 3], ⟨rfl, rfl, trivial⟩, ⟨rfl, rfl, rfl, rfl, trivial⟩, rfl⟩⟩
end Go.Proofs.Ytpfipmjmblgjfaa

namespace Go.Proofs.Ytpfipmjmblgjfaa
open Go.Lg Go.Pm
set_option maxHeartbeats 6400000
set_option maxRecDepth 10000
set_option linter.unusedVariables false
set_option linter.unusedSimpArgs false

def rlB (w c p : List Int) : Bool := clsB w c && (eqI (p.length : Int) (w.length : Int) && permB p)
def rlL (b : Bool) (x p : List Int) : List Int := match b with | true => rel x p | false => []
theorem rlL_len {w c p : List Int} : (rlL (rlB w c p) w p).length ≤ p.length ∧ (rlL (rlB w c p) c p).length ≤ p.length := by
  cases rlB w c p <;> simp [rlL, rel_len]
theorem cmp_rel {w p : List Int} (hw : permB w = true) (hp : permB p = true) (hl : w.length = p.length) : cmpL (cmpL (invL p) w) p = rel w p := by
  have e1 : invL p = inv p := by unfold invL; rw [hp]
  have h1 := perm_inv hp
  have b1 : cmpB (inv p) w = true := by unfold cmpB; rw [h1, hw, inv_len, hl, eqI_refl]; rfl
  have h2 := perm_cmp h1 hw (by rw [inv_len]; exact hl)
  have b2 : cmpB (cmp (inv p) w) p = true := by unfold cmpB; rw [h2, hp, cmp_len, inv_len, eqI_refl]; rfl
  rw [e1]
  unfold cmpL rel
  rw [b1, b2]
theorem relabel_impl (w c p : List Int) (h1 : w.length ≤ 1048576) (h2 : c.length ≤ 1048576) (h3 : p.length ≤ 1048576) :
    HSpec env.P 42 [clsLV w c, rowSl p] [] (pdHS (rlB w c p) ((rlL (rlB w c p) w p).map intLV).length ((rlL (rlB w c p) c p).map intLV).length) (clsH (rlL (rlB w c p) w p) (rlL (rlB w c p) c p)) := by
  refine HSpec_of_code (E := env.x [106] 0) env_ok.x (fn := Try.f42) Try.func42 rfl Try.call42 _ _ _ _ ?_
  have hP : (p.map intLV).length = p.length := List.length_map ..
  have hW : (w.map intLV).length = w.length := List.length_map ..
  ((repeat ((conv => whnf); first | refine brT ?_ | refine brF ?_)); conv => whnf)
  refine ⟨_, isClasses_impl w c h1 h2, ?_⟩
  ((repeat ((conv => whnf); first | refine brT ?_ | refine brF ?_)); conv => whnf)
  (refine ⟨fun g1 => ?_, fun g1 => ?_⟩ <;> rw [g1])
  · rw [notB_t] at g1
    have e : rlB w c p = false := by unfold rlB; rw [g1]; rfl
    rw [e]
    ((repeat ((conv => whnf); first | refine brT ?_ | refine brF ?_)); conv => whnf)
    exact ⟨[clsHS 0 0, .bool false], rfl, rfl, .nl [.tmp 0 [0] false 3 1, .tmp 0 [1] false 3 1] [.old 2, .old 3] ⟨⟨rfl, rfl, rfl, rfl, trivial⟩, ⟨rfl, rfl, rfl, rfl, trivial⟩, rfl⟩⟩
  rw [notB_f] at g1
  ((repeat ((conv => whnf); first | refine brT ?_ | refine brF ?_)); conv => whnf)
  intro _
  rw [hP]
  ((repeat ((conv => whnf); first | refine brT ?_ | refine brF ?_)); conv => whnf)
  intro _
  rw [hW]
  ((repeat ((conv => whnf); first | refine brT ?_ | refine brF ?_)); conv => whnf)
  (refine ⟨fun g2 => ?_, fun g2 => ?_⟩ <;> rw [g2])
  · rw [notB_t] at g2
    have e : rlB w c p = false := by unfold rlB; rw [g1, g2]; rfl
    rw [e]
    ((repeat ((conv => whnf); first | refine brT ?_ | refine brF ?_)); conv => whnf)
    exact ⟨[clsHS 0 0, .bool false], rfl, rfl, .nl [.tmp 0 [0] false 3 1, .tmp 0 [1] false 3 1] [.old 2, .old 3] ⟨⟨rfl, rfl, rfl, rfl, trivial⟩, ⟨rfl, rfl, rfl, rfl, trivial⟩, rfl⟩⟩
  rw [notB_f] at g2
  ((repeat ((conv => whnf); first | refine brT ?_ | refine brF ?_)); conv => whnf)
  refine ⟨_, isPerm_impl p (by omega), ?_⟩
  ((repeat ((conv => whnf); first | refine brT ?_ | refine brF ?_)); conv => whnf)
  (refine ⟨fun g3 => ?_, fun g3 => ?_⟩ <;> rw [g3])
  · rw [notB_t] at g3
    have e : rlB w c p = false := by unfold rlB; rw [g1, g2, g3]; rfl
    rw [e]
    ((repeat ((conv => whnf); first | refine brT ?_ | refine brF ?_)); conv => whnf)
    exact ⟨[clsHS 0 0, .bool false], rfl, rfl, .nl [.tmp 0 [0] false 3 1, .tmp 0 [1] false 3 1] [.old 2, .old 3] ⟨⟨rfl, rfl, rfl, rfl, trivial⟩, ⟨rfl, rfl, rfl, rfl, trivial⟩, rfl⟩⟩
  rw [notB_f] at g3
  have e : rlB w c p = true := by unfold rlB; rw [g1, g2, g3]; rfl
  rw [e]
  obtain ⟨n1, n8, hl, pw, pc⟩ := clsB_at g1
  have hp := eqI_t.1 g2
  have hh := relabeled_h w c p h1 h2 h3
  rw [cmp_rel pw g3 (by omega), cmp_rel pc g3 (by omega)] at hh
  ((repeat ((conv => whnf); first | refine brT ?_ | refine brF ?_)); conv => whnf)
  refine ⟨[], _, _, _, _, hh, rfl, rfl, rfl, trivial, ?_⟩
  ((repeat ((conv => whnf); first | refine brT ?_ | refine brF ?_)); conv => whnf)
  exact ⟨[clsHS ((rel w p).map intLV).length ((rel c p).map intLV).length, .bool true], rfl, rfl, .inr ⟨[.old 2, .old 3], ⟨rfl, rfl, rfl, rfl, trivial⟩, ⟨rfl, rfl, rfl, rfl, trivial⟩, rfl⟩⟩
theorem relabel_spec (w c p : List Int) (h1 : w.length ≤ 1048576) (h2 : c.length ≤ 1048576) (h3 : p.length ≤ 1048576) :
    HSpec env.P 41 [clsLV w c, rowSl p] [] (pdHS (rlB w c p) ((rlL (rlB w c p) w p).map intLV).length ((rlL (rlB w c p) c p).map intLV).length) (clsH (rlL (rlB w c p) w p) (rlL (rlB w c p) c p)) := by
  refine HSpec_of_code (E := env.x [105] 0) env_ok.x (fn := Try.f41) Try.func41 rfl Try.call41 _ _ _ _ ?_
  have hP : (p.map intLV).length = p.length := List.length_map ..
  have hW : (w.map intLV).length = w.length := List.length_map ..
  ((repeat ((conv => whnf); first | refine brT ?_ | refine brF ?_)); conv => whnf)
  refine ⟨_, isClasses_spec w c h1 h2, ?_⟩
  ((repeat ((conv => whnf); first | refine brT ?_ | refine brF ?_)); conv => whnf)
  (refine ⟨fun g1 => ?_, fun g1 => ?_⟩ <;> rw [g1])
  · rw [notB_t] at g1
    have e : rlB w c p = false := by unfold rlB; rw [g1]; rfl
    rw [e]
    ((repeat ((conv => whnf); first | refine brT ?_ | refine brF ?_)); conv => whnf)
    exact ⟨[clsHS 0 0, .bool false], rfl, rfl, .nl [.tmp 0 [0] false 3 1, .tmp 0 [1] false 3 1] [.old 2, .old 3] ⟨⟨rfl, rfl, rfl, rfl, trivial⟩, ⟨rfl, rfl, rfl, rfl, trivial⟩, rfl⟩⟩
  rw [notB_f] at g1
  ((repeat ((conv => whnf); first | refine brT ?_ | refine brF ?_)); conv => whnf)
  intro _
  rw [hP]
  ((repeat ((conv => whnf); first | refine brT ?_ | refine brF ?_)); conv => whnf)
  intro _
  rw [hW]
  ((repeat ((conv => whnf); first | refine brT ?_ | refine brF ?_)); conv => whnf)
  (refine ⟨fun g2 => ?_, fun g2 => ?_⟩ <;> rw [g2])
  · rw [notB_t] at g2
    have e : rlB w c p = false := by unfold rlB; rw [g1, g2]; rfl
    rw [e]
    ((repeat ((conv => whnf); first | refine brT ?_ | refine brF ?_)); conv => whnf)
    exact ⟨[clsHS 0 0, .bool false], rfl, rfl, .nl [.tmp 0 [0] false 3 1, .tmp 0 [1] false 3 1] [.old 2, .old 3] ⟨⟨rfl, rfl, rfl, rfl, trivial⟩, ⟨rfl, rfl, rfl, rfl, trivial⟩, rfl⟩⟩
  rw [notB_f] at g2
  ((repeat ((conv => whnf); first | refine brT ?_ | refine brF ?_)); conv => whnf)
  refine ⟨_, isPerm_spec p (by omega), ?_⟩
  ((repeat ((conv => whnf); first | refine brT ?_ | refine brF ?_)); conv => whnf)
  (refine ⟨fun g3 => ?_, fun g3 => ?_⟩ <;> rw [g3])
  · rw [notB_t] at g3
    have e : rlB w c p = false := by unfold rlB; rw [g1, g2, g3]; rfl
    rw [e]
    ((repeat ((conv => whnf); first | refine brT ?_ | refine brF ?_)); conv => whnf)
    exact ⟨[clsHS 0 0, .bool false], rfl, rfl, .nl [.tmp 0 [0] false 3 1, .tmp 0 [1] false 3 1] [.old 2, .old 3] ⟨⟨rfl, rfl, rfl, rfl, trivial⟩, ⟨rfl, rfl, rfl, rfl, trivial⟩, rfl⟩⟩
  rw [notB_f] at g3
  have e : rlB w c p = true := by unfold rlB; rw [g1, g2, g3]; rfl
  rw [e]
  obtain ⟨n1, n8, hl, pw, pc⟩ := clsB_at g1
  have hp := eqI_t.1 g2
  have hh := l6Relabel_h w c p pw pc g3 (by omega) (by omega) (by omega)
  ((repeat ((conv => whnf); first | refine brT ?_ | refine brF ?_)); conv => whnf)
  refine ⟨[], _, _, _, _, hh, rfl, rfl, rfl, trivial, ?_⟩
  ((repeat ((conv => whnf); first | refine brT ?_ | refine brF ?_)); conv => whnf)
  exact ⟨[clsHS ((rel w p).map intLV).length ((rel c p).map intLV).length, .bool true], rfl, rfl, .inr ⟨[.old 2, .old 3], ⟨rfl, rfl, rfl, rfl, trivial⟩, ⟨rfl, rfl, rfl, rfl, trivial⟩, rfl⟩⟩
theorem law_relabelClasses (w c p : List Int) (hm : w.length ≤ Go.maxLen ∧ c.length ≤ Go.maxLen) (hm2 : p.length ≤ Go.maxLen) : FSpec env.P 8 [clsLV w c, rowSl p] (.bool true) := by
  refine FSpec_of_code (E := env.x [36, 25, 42, 43, 30] 0) env_ok.x (fn := Try.f8) Try.func8 rfl Try.call8 _ _ ?_
  have hP : ((p.map intLV).length : Int) = (p.length : Int) := by simp
  ((repeat ((conv => whnf); first | refine brT ?_ | refine brF ?_)); conv => whnf)
  intro _
  ((repeat ((conv => whnf); first | refine brT ?_ | refine brF ?_)); conv => whnf)
  rw [hP]
  (refine ⟨fun h0 => ?_, fun h0 => ?_⟩ <;> rw [h0])
  · ((repeat ((conv => whnf); first | refine brT ?_ | refine brF ?_)); conv => whnf); exact fin rfl
  rw [ltI_f] at h0
  ((repeat ((conv => whnf); first | refine brT ?_ | refine brF ?_)); conv => whnf)
  refine ⟨_, szClasses_spec w c _, ?_⟩
  ((repeat ((conv => whnf); first | refine brT ?_ | refine brF ?_)); conv => whnf)
  (refine ⟨fun h => ?_, fun h => ?_⟩ <;> rw [h])
  · ((repeat ((conv => whnf); first | refine brT ?_ | refine brF ?_)); conv => whnf); exact fin rfl
  rw [ltI_f] at h
  obtain ⟨es, hs⟩ := szC_ok (by omega) (by omega) hm.1 hm.2 h
  have hI := relabel_impl w c p (by omega) (by omega) (by omega)
  have hS := clsT_f (relabel_spec w c p (by omega) (by omega) (by omega))
  obtain ⟨hl1, hl2⟩ := rlL_len (w := w) (c := c) (p := p)
  generalize rlL (rlB w c p) w p = W at hI hS hl1
  generalize rlL (rlB w c p) c p = C at hI hS hl2
  generalize rlB w c p = b at hI hS
  unfold pdHS at hI
  ((repeat ((conv => whnf); first | refine brT ?_ | refine brF ?_)); conv => whnf)
  refine ⟨[], _, _, _, _, toClasses_h w c (by omega) (by omega), rfl, rfl, rfl, trivial, ?_⟩
  ((repeat ((conv => whnf); first | refine brT ?_ | refine brF ?_)); conv => whnf)
  refine ⟨[], _, _, _, _, toIntS_h p (by omega), rfl, rfl, rfl, trivial, ?_⟩
  ((repeat ((conv => whnf); first | refine brT ?_ | refine brF ?_)); conv => whnf)
  refine ⟨rfl, ?_⟩
  ((repeat ((conv => whnf); first | refine brT ?_ | refine brF ?_)); conv => whnf)
  refine ⟨rfl, ?_⟩
  ((repeat ((conv => whnf); first | refine brT ?_ | refine brF ?_)); conv => whnf)
  refine ⟨rfl, ?_⟩
  ((repeat ((conv => whnf); first | refine brT ?_ | refine brF ?_)); conv => whnf)
  refine ⟨_, hS, ?_⟩
  rw [flat_clsT]
  ((repeat ((conv => whnf); first | refine brT ?_ | refine brF ?_)); conv => whnf)
  refine ⟨[], _, _, _, _, toClasses_h w c (by omega) (by omega), rfl, rfl, rfl, trivial, ?_⟩
  ((repeat ((conv => whnf); first | refine brT ?_ | refine brF ?_)); conv => whnf)
  refine ⟨[], _, _, _, _, toIntS_h p (by omega), rfl, rfl, rfl, trivial, ?_⟩
  ((repeat ((conv => whnf); first | refine brT ?_ | refine brF ?_)); conv => whnf)
  refine ⟨[], _, _, _, _, hI, rfl, ?_⟩
  ((repeat ((conv => whnf); first | refine brT ?_ | refine brF ?_)); conv => whnf)
  refine ⟨rfl, ?_⟩
  ((repeat ((conv => whnf); first | refine brT ?_ | refine brF ?_)); conv => whnf)
  refine ⟨rfl, ?_⟩
  ((repeat ((conv => whnf); first | refine brT ?_ | refine brF ?_)); conv => whnf)
  refine ⟨rfl, ?_⟩
  ((repeat ((conv => whnf); first | refine brT ?_ | refine brF ?_)); conv => whnf)
  refine ⟨rfl, rfl, ⟨rfl, flats_ints _, flats_ints _, trivial⟩, ?_⟩
  ((repeat ((conv => whnf); first | refine brT ?_ | refine brF ?_)); conv => whnf)
  refine ⟨rfl, ?_⟩
  ((repeat ((conv => whnf); first | refine brT ?_ | refine brF ?_)); conv => whnf)
  refine ⟨rfl, ?_⟩
  ((repeat ((conv => whnf); first | refine brT ?_ | refine brF ?_)); conv => whnf)
  refine ⟨_, eqClasses_spec W C W C, ?_⟩
  rw [eqCls_refl]
  ((repeat ((conv => whnf); first | refine brT ?_ | refine brF ?_)); conv => whnf)
  rw [show notB true = false by simp [notB]]
  ((repeat ((conv => whnf); first | refine brT ?_ | refine brF ?_)); conv => whnf)
  rw [show notB (eqB (b) (b)) = false by simp [notB, eqB_refl]]
  ((repeat ((conv => whnf); first | refine brT ?_ | refine brF ?_)); conv => whnf)
  refine ⟨true, by kernel_rfl, ?_⟩
  ((repeat ((conv => whnf); first | refine brT ?_ | refine brF ?_)); conv => whnf)
  refine ⟨_, toClasses_f w c (by omega) (by omega), ?_⟩
  ((repeat ((conv => whnf); first | refine brT ?_ | refine brF ?_)); conv => whnf)
  refine ⟨rfl, ?_⟩
  ((repeat ((conv => whnf); first | refine brT ?_ | refine brF ?_)); conv => whnf)
  refine ⟨rfl, ?_⟩
  ((repeat ((conv => whnf); first | refine brT ?_ | refine brF ?_)); conv => whnf)
  refine ⟨_, eqClasses_spec w c w c, ?_⟩
  rw [eqCls_refl]
  ((repeat ((conv => whnf); first | refine brT ?_ | refine brF ?_)); conv => whnf)
  rw [show notB true = false by simp [notB]]
  ((repeat ((conv => whnf); first | refine brT ?_ | refine brF ?_)); conv => whnf)
  refine ⟨[], _, _, _, _, toIntS_h p (by omega), rfl, rfl, rfl, trivial, ?_⟩
  ((repeat ((conv => whnf); first | refine brT ?_ | refine brF ?_)); conv => whnf)
  refine ⟨rfl, ?_⟩
  ((repeat ((conv => whnf); first | refine brT ?_ | refine brF ?_)); conv => whnf)
  refine ⟨rfl, ?_⟩
  ((repeat ((conv => whnf); first | refine brT ?_ | refine brF ?_)); conv => whnf)
  refine ⟨_, eqIntS_spec p p, ?_⟩
  rw [eqIntS_refl]
  ((repeat ((conv => whnf); first | refine brT ?_ | refine brF ?_)); conv => whnf)
  rw [show notB true = false by simp [notB]]
  ((repeat ((conv => whnf); first | refine brT ?_ | refine brF ?_)); conv => whnf)
  refine ⟨[5, 6], _, _, _, _, markClasses_spec w c _ _ rfl rfl 1 (by omega) (by omega), rfl, rfl, rfl, trivial, ?_⟩
  ((repeat ((conv => whnf); first | refine brT ?_ | refine brF ?_)); conv => whnf)
  refine ⟨[8], _, _, _, _, markIntS_spec p _ rfl (1 + (w.length : Int) + (c.length : Int)) (by omega) (by omega), rfl, rfl, rfl, trivial, ?_⟩
  ((repeat ((conv => whnf); first | refine brT ?_ | refine brF ?_)); conv => whnf)
  rw [show ltI (1 + (w.length : Int) + (c.length : Int) + (p.length : Int)) 0 = false by rw [ltI_f]; omega]
  ((repeat ((conv => whnf); first | refine brT ?_ | refine brF ?_)); conv => whnf)
  refine ⟨rfl, ?_⟩
  ((repeat ((conv => whnf); first | refine brT ?_ | refine brF ?_)); conv => whnf)
  refine ⟨rfl, ?_⟩
  ((repeat ((conv => whnf); first | refine brT ?_ | refine brF ?_)); conv => whnf)
  refine ⟨_, eqClasses_spec W C W C, ?_⟩
  rw [eqCls_refl]
  ((repeat ((conv => whnf); first | refine brT ?_ | refine brF ?_)); conv => whnf)
  rw [show notB true = false by simp [notB]]
  ((repeat ((conv => whnf); first | refine brT ?_ | refine brF ?_)); conv => whnf)
  rw [show notB (eqB (b) (b)) = false by simp [notB, eqB_refl]]
  ((repeat ((conv => whnf); first | refine brT ?_ | refine brF ?_)); conv => whnf)
  refine ⟨[9, 10], _, _, _, _, markClasses_spec W C _ _ rfl rfl 1 (by omega) (by omega), rfl, rfl, rfl, trivial, ?_⟩
  ((repeat ((conv => whnf); first | refine brT ?_ | refine brF ?_)); conv => whnf)
  refine ⟨by simp [marks_len], ?_⟩
  ((repeat ((conv => whnf); first | refine brT ?_ | refine brF ?_)); conv => whnf)
  refine ⟨by simp [marks_len], ?_⟩
  ((repeat ((conv => whnf); first | refine brT ?_ | refine brF ?_)); conv => whnf)
  refine ⟨_, heldClasses_spec 1 W.length C.length (by omega) (by omega), ?_⟩
  ((repeat ((conv => whnf); first | refine brT ?_ | refine brF ?_)); conv => whnf)
  rw [show ltI (1 + (W.length : Int) + (C.length : Int)) 0 = false by rw [ltI_f]; omega]
  ((repeat ((conv => whnf); first | refine brT ?_ | refine brF ?_)); conv => whnf)
  rw [show notB (eqI (1 + (W.length : Int) + (C.length : Int)) (1 + (W.length : Int) + (C.length : Int))) = false by simp [notB, eqI_refl]]
  ((repeat ((conv => whnf); first | refine brT ?_ | refine brF ?_)); conv => whnf)
  refine ⟨[], _, _, _, _, toClasses_h w c (by omega) (by omega), rfl, rfl, rfl, trivial, ?_⟩
  ((repeat ((conv => whnf); first | refine brT ?_ | refine brF ?_)); conv => whnf)
  refine ⟨[], _, _, _, _, toIntS_h p (by omega), rfl, rfl, rfl, trivial, ?_⟩
  ((repeat ((conv => whnf); first | refine brT ?_ | refine brF ?_)); conv => whnf)
  refine ⟨[], _, _, _, _, hI, rfl, ?_⟩
  ((repeat ((conv => whnf); first | refine brT ?_ | refine brF ?_)); conv => whnf)
  refine ⟨rfl, ?_⟩
  ((repeat ((conv => whnf); first | refine brT ?_ | refine brF ?_)); conv => whnf)
  refine ⟨rfl, ?_⟩
  ((repeat ((conv => whnf); first | refine brT ?_ | refine brF ?_)); conv => whnf)
  refine ⟨rfl, ?_⟩
  ((repeat ((conv => whnf); first | refine brT ?_ | refine brF ?_)); conv => whnf)
  refine ⟨rfl, rfl, ⟨rfl, flats_ints _, flats_ints _, trivial⟩, ?_⟩
  ((repeat ((conv => whnf); first | refine brT ?_ | refine brF ?_)); conv => whnf)
  refine ⟨rfl, ?_⟩
  ((repeat ((conv => whnf); first | refine brT ?_ | refine brF ?_)); conv => whnf)
  refine ⟨rfl, ?_⟩
  ((repeat ((conv => whnf); first | refine brT ?_ | refine brF ?_)); conv => whnf)
  refine ⟨_, eqClasses_spec W C W C, ?_⟩
  rw [eqCls_refl]
  ((repeat ((conv => whnf); first | refine brT ?_ | refine brF ?_)); conv => whnf)
  rw [show notB true = false by simp [notB]]
  ((repeat ((conv => whnf); first | refine brT ?_ | refine brF ?_)); conv => whnf)
  rw [show notB (eqB (b) (b)) = false by simp [notB, eqB_refl]]
  ((repeat ((conv => whnf); first | refine brT ?_ | refine brF ?_)); conv => whnf)
  refine ⟨by simp [marks_len], ?_⟩
  ((repeat ((conv => whnf); first | refine brT ?_ | refine brF ?_)); conv => whnf)
  refine ⟨by simp [marks_len], ?_⟩
  ((repeat ((conv => whnf); first | refine brT ?_ | refine brF ?_)); conv => whnf)
  refine ⟨_, heldClasses_spec 1 W.length C.length (by omega) (by omega), ?_⟩
  ((repeat ((conv => whnf); first | refine brT ?_ | refine brF ?_)); conv => whnf)
  rw [show ltI (1 + (W.length : Int) + (C.length : Int)) 0 = false by rw [ltI_f]; omega]
  ((repeat ((conv => whnf); first | refine brT ?_ | refine brF ?_)); conv => whnf)
  rw [show notB (eqI (1 + (W.length : Int) + (C.length : Int)) (1 + (W.length : Int) + (C.length : Int))) = false by simp [notB, eqI_refl]]
  ((repeat ((conv => whnf); first | refine brT ?_ | refine brF ?_)); conv => whnf)
  exact fin rfl
end Go.Proofs.Ytpfipmjmblgjfaa
