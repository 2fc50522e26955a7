/- Contracts of functions of the program and of its model, told over readings. -/
import Derived.Test.YtgockgehbnekbaaGreatBPF
import Derived.Test.YtgockgehbnekbaaGreatBPC
import Derived.Test.YtgockgehbnekbaaGreatBPD
import Derived.Test.YtgockgehbnekbaaGreatBPE
import Derived.Test.YtgockgehbnekbaaGreatBPA
import Derived.Test.YtgockgehbnekbaaGreatBLgW
namespace Go.Proofs.YtgockgehbnekbaaGreat
open Go.Lg
set_option maxHeartbeats 3200000
set_option maxRecDepth 10000
set_option linter.unusedVariables false
set_option linter.unusedSimpArgs false

/-! ### RelationFor: from the egos, step by step -/
theorem stepB_zero {k g x : Int} (h : stepB k g x = true) : stepB k g 0 = true := by
  unfold stepB at *
  simp only [eqI_d, notB_d] at *
  simp at *
  grind
def walkTo (ps : List Per) (us : List Uni) (e : Int) (ss : List Pr) : Nat → Nat → Nat → Bool
  | 0 => egoTo ps e ps.length
  | k + 1 => compP ps.length (walkTo ps us e ss k) (l3P ps us (ss.getD k ⟨0, 0⟩))
theorem walkTo_succ {ps : List Per} {us : List Uni} {e : Int} {ss : List Pr} {k : Nat} (h : k < ss.length) : walkTo ps us e ss (k + 1) = compP ps.length (walkTo ps us e ss k) (l3P ps us ss[k]) := by
  show compP ps.length (walkTo ps us e ss k) (l3P ps us (ss.getD k ⟨0, 0⟩)) = _
  rw [List.getD_eq_getElem?_getD, List.getElem?_eq_getElem h]; rfl
def forN (ps : List Per) (us : List Uni) (e : Int) (ss : List Pr) : Nat := match famOk ps us && typB e ss with | true => ps.length | false => 0
theorem typB_step {e : Int} {ss : List Pr} (h : typB e ss = true) {k : Nat} (hk : k < ss.length) : stepB ss[k].a ss[k].b 0 = true := by
  unfold typB stepsTo at h
  simp only [Bool.and_eq_true, List.all_eq_true] at h
  have := h.2.2 k (List.mem_range.2 hk)
  rw [List.getElem?_eq_getElem hk] at this
  exact stepB_zero this
theorem typB_len {e : Int} {ss : List Pr} (h : typB e ss = true) : ss.length ≤ 8 := by
  unfold typB at h
  simp only [Bool.and_eq_true, leI_t] at h
  have := h.2.1
  omega
theorem comp_h {N : Nat} (hN : N ≤ 40) (P Q : Nat → Nat → Bool) : HSpec env.P 39 [valR N P, valR N Q] [] (relHS N 0 ((relRows N (compP N P Q)).map rowOw).length) [.tree 51 1 ((relRows N (compP N P Q)).map rowOw)] := by
  have h := implCompose_h N (relRows N P) N (relRows N Q)
  rw [rsR _ (alR hN), relRows_len, relRows_ext (compP_ext (fun a ha b hb => relP_relRows ha hb) (fun a ha b hb => relP_relRows ha hb))] at h
  exact h
theorem step_f {ps : List Per} {us : List Uni} {s : Pr} (h : famOk ps us = true) (hs : stepB s.a s.b 0 = true) : FSpec env.P 40 [famLV ps us, s.lv] (outR ps.length (l3P ps us s)) := by
  have k := implStep_h ps us s
  rw [show stepN ps us s = ps.length by unfold stepN; rw [h, hs]; rfl] at k
  exact rel_f k

theorem implFor_h (ps : List Per) (us : List Uni) (e : Int) (ss : List Pr) :
    HSpec env.P 10 [famLV ps us, typLV e ss] [] (relHS (forN ps us e ss) 0 ((relRows (forN ps us e ss) (walkTo ps us e ss ss.length)).map rowOw).length) [.tree 51 1 ((relRows (forN ps us e ss) (walkTo ps us e ss ss.length)).map rowOw)] := by
  refine HSpec_of_code (E := env.x [38, 37, 39] 0) env_ok.x (fn := Tryz.f10) Tryz.func10 rfl Tryz.call10 _ _ _ _ ?_
  have hno : (famOk ps us && typB e ss) = false → forN ps us e ss = 0 := fun h => by unfold forN; rw [h]
  ((repeat ((conv => whnf); first | refine brT ?_ | refine brF ?_)); conv => whnf)
  refine ⟨_, isFamily_impl ps us, ?_⟩
  ((repeat ((conv => whnf); first | refine brT ?_ | refine brF ?_)); conv => whnf)
  (refine ⟨fun h => ?_, fun h => ?_⟩ <;> rw [h])
  · rw [notB_t] at h
    rw [hno (by rw [h]; rfl)]
    ((repeat ((conv => whnf); first | refine brT ?_ | refine brF ?_)); conv => whnf)
    exact ⟨[relHS 0 0 0], rfl, rfl, .nl [.tmp 0 [1] true 51 1] [.old 3] ⟨⟨rfl, rfl, trivial⟩, ⟨rfl, rfl, trivial⟩, rfl⟩⟩
  rw [notB_f] at h
  ((repeat ((conv => whnf); first | refine brT ?_ | refine brF ?_)); conv => whnf)
  refine ⟨_, isType_impl e ss, ?_⟩
  ((repeat ((conv => whnf); first | refine brT ?_ | refine brF ?_)); conv => whnf)
  (refine ⟨fun h2 => ?_, fun h2 => ?_⟩ <;> rw [h2])
  · rw [notB_t] at h2
    rw [hno (by rw [h, h2]; rfl)]
    ((repeat ((conv => whnf); first | refine brT ?_ | refine brF ?_)); conv => whnf)
    exact ⟨[relHS 0 0 0], rfl, rfl, .nl [.tmp 0 [1] true 51 1] [.old 3] ⟨⟨rfl, rfl, trivial⟩, ⟨rfl, rfl, trivial⟩, rfl⟩⟩
  rw [notB_f] at h2
  rw [show forN ps us e ss = ps.length by unfold forN; rw [h, h2]; rfl]
  have hN := (famOk_parts h).1
  have hS := typB_len h2
  ((repeat ((conv => whnf); first | refine brT ?_ | refine brF ?_)); conv => whnf)
  refine ⟨[], _, _, _, _, egosOf_h ps us e hN, rfl, rfl, rfl, trivial, ?_⟩
  ((repeat ((conv => whnf); first | refine brT ?_ | refine brF ?_)); conv => whnf)
  have hR := relationOfSets_P ps.length (egoTo ps e ps.length) hN
  refine ⟨[], _, _, _, _, hR, rfl, ?_⟩
  ((repeat ((conv => whnf); first | refine brT ?_ | refine brF ?_)); conv => whnf)
  refine ⟨by simp [setsP_len], ?_⟩
  ((repeat ((conv => whnf); first | refine brT ?_ | refine brF ?_)); conv => whnf)
  refine ⟨rfl, rfl, ⟨rfl, flatTs_rows _, trivial⟩, ?_⟩
  ((repeat ((conv => whnf); first | refine brT ?_ | refine brF ?_)); conv => whnf)
  intro hm
  rw [show (List.map Pr.lv ss).length = ss.length by simp]
  ((repeat ((conv => whnf); first | refine brT ?_ | refine brF ?_)); conv => whnf)
  refine loop_ruleR (α := Nat) [.old 0, .old 1, .old 2, .old 4, .old 5] (fun k => [(5, .hp 4 0 []), (20, .undef), (21, .undef), (25, .int .i64 (k : Int))])
    (fun k => [.box (famLV ps us), .box (typLV e ss), .box (.st [.int .i64 0, .nil]), .tree 51 1 ((relRows ps.length (walkTo ps us e ss k)).map rowOw), .box (relHS ps.length 3 ((relRows ps.length (walkTo ps us e ss k)).map rowOw).length)])
    (fun k => ss.length - k) (fun k => k ≤ ss.length) 0 (Nat.zero_le _) ?_ ?_
  · refine ⟨?_, ⟨rfl, rfl, rfl, rfl, rfl, rfl, rfl, rfl, rfl, rfl, trivial⟩, rfl⟩
    ((repeat ((conv => whnf); refine ⟨rfl, rfl, ?_⟩)); trivial)
  intro k hk
  generalize hKK : kk _ = KK
  ((repeat ((conv => whnf); first | refine brT ?_ | refine brF ?_)); conv => whnf)
  (refine ⟨fun g1 => ?_, fun g1 => ?_⟩ <;> rw [g1])
  · have hlt : k < ss.length := by rw [ltI_t] at g1; omega
    have e1 := step_i hlt (by unfold Go.maxLen; omega)
    have ew := walkTo_succ (ps := ps) (us := us) (e := e) hlt
    ((repeat ((conv => whnf); first | refine brT ?_ | refine brF ?_)); conv => whnf)
    refine ⟨k, ss[k].lv, rfl, by simp [hlt], rfl, ?_⟩
    ((repeat ((conv => whnf); first | refine brT ?_ | refine brF ?_)); conv => whnf)
    refine ⟨false, 4, by kernel_rfl, ?_⟩
    ((repeat ((conv => whnf); first | refine brT ?_ | refine brF ?_)); conv => whnf)
    refine ⟨_, step_f h (typB_step h2 hlt), ?_⟩
    ((repeat ((conv => whnf); first | refine brT ?_ | refine brF ?_)); conv => whnf)
    refine ⟨[], _, _, _, _, comp_h hN (walkTo ps us e ss k) (l3P ps us ss[k]), rfl, ?_⟩
    ((repeat ((conv => whnf); first | refine brT ?_ | refine brF ?_)); conv => whnf)
    refine ⟨rfl, _, dms_rows _, ?_⟩
    ((repeat ((conv => whnf); first | refine brT ?_ | refine brF ?_)); conv => whnf)
    refine ⟨rfl, rfl, ⟨rfl, flatTs_rows _, trivial⟩, ?_⟩
    ((repeat ((conv => whnf); first | refine brT ?_ | refine brF ?_)); conv => whnf)
    rw [← ew]
    refine round_endR [.old 0, .old 1, .old 2, .old 6, .old 4] (k + 1) hlt (by omega) ⟨?_, ⟨rfl, rfl, rfl, rfl, rfl, rfl, rfl, rfl, rfl, rfl, trivial⟩, rfl⟩
    ((repeat ((conv => whnf); first | refine ⟨rfl, e1, ?_⟩ | refine ⟨rfl, rfl, ?_⟩)); trivial)
  · have h3 : k = ss.length := by rw [ltI_f] at g1; omega
    subst h3
    subst hKK
    ((repeat ((conv => whnf); first | refine brT ?_ | refine brF ?_)); conv => whnf)
    exact ⟨[relHS ps.length 0 ((relRows ps.length (walkTo ps us e ss ss.length)).map rowOw).length], rfl, rfl, .inr ⟨[.old 3], ⟨rfl, rfl, trivial⟩, ⟨rfl, rfl, trivial⟩, rfl⟩⟩
end Go.Proofs.YtgockgehbnekbaaGreat

namespace Go.Proofs.YtgockgehbnekbaaGreat
open Go.Lg
set_option maxHeartbeats 1600000
set_option maxRecDepth 10000
set_option linter.unusedVariables false
set_option linter.unusedSimpArgs false

theorem l2Compose_h (N : Nat) (P Q : Nat → Nat → Bool) (hN : N ≤ 40) :
    HSpec env.P 29 [.sl ((gridP N P).map lineSl), .sl ((gridP N Q).map lineSl)] [] (.hs 0 N) [.tree 65 1 ((gridP N (compP N P Q)).map lineOw)] := by
  refine HSpec_of_code (E := env.x [28] 0) env_ok.x (fn := Tryz.f29) Tryz.func29 rfl Tryz.call29 _ _ _ _ ?_
  ((repeat ((conv => whnf); first | refine brT ?_ | refine brF ?_)); conv => whnf)
  intro _
  rw [linesS_len]
  ((repeat ((conv => whnf); first | refine brT ?_ | refine brF ?_)); conv => whnf)
  refine ⟨[], _, _, _, _, l2Blank_P N hN, rfl, rfl, rfl, trivial, ?_⟩
  ((repeat ((conv => whnf); first | refine brT ?_ | refine brF ?_)); conv => whnf)
  intro _
  rw [linesS_len]
  ((repeat ((conv => whnf); first | refine brT ?_ | refine brF ?_)); conv => whnf)
  refine loop_ruleR (α := Nat) [.old 0] (fun a => [(46, .undef), (14, .int .i64 (a : Int))]) (fun a => [.tree 65 1 ((gridP N (iter (fun a R => iter (fun b R => iter (cellC P Q a b) N R) N R) a (fun _ _ => false))).map lineOw)]) (fun a => N - a) (fun a => a ≤ N) 0 (Nat.zero_le _) ?_ ?_
  · refine ⟨?_, ⟨rfl, rfl, trivial⟩, rfl⟩
    ((repeat ((conv => whnf); refine ⟨rfl, rfl, ?_⟩)); trivial)
  intro a ha
  generalize hK0 : kk _ = K0
  ((repeat ((conv => whnf); first | refine brT ?_ | refine brF ?_)); conv => whnf)
  (refine ⟨fun h1 => ?_, fun h1 => ?_⟩ <;> rw [h1])
  · have hal : a < N := by rw [ltI_t] at h1; omega
    have e1 := step_i (n := N) hal (by unfold Go.maxLen; omega)
    have ea : iter (fun a R => iter (fun b R => iter (cellC P Q a b) N R) N R) (a + 1) (fun _ _ => false) = iter (fun b R => iter (cellC P Q a b) N R) N (iter (fun a R => iter (fun b R => iter (cellC P Q a b) N R) N R) a (fun _ _ => false)) := rfl
    generalize iter (fun a R => iter (fun b R => iter (cellC P Q a b) N R) N R) a (fun _ _ => false) = R at ea
    ((repeat ((conv => whnf); first | refine brT ?_ | refine brF ?_)); conv => whnf)
    intro _
    rw [linesS_len]
    ((repeat ((conv => whnf); first | refine brT ?_ | refine brF ?_)); conv => whnf)
    refine loop_ruleR (α := Nat) [.old 0] (fun b => [(46, .undef), (19, .int .i64 (b : Int))]) (fun b => [.tree 65 1 ((gridP N (iter (fun b R => iter (cellC P Q a b) N R) b R)).map lineOw)]) (fun b => N - b) (fun b => b ≤ N) 0 (Nat.zero_le _) ?_ ?_
    · refine ⟨?_, ⟨rfl, rfl, trivial⟩, rfl⟩
      ((repeat ((conv => whnf); refine ⟨rfl, rfl, ?_⟩)); trivial)
    intro b hb
    generalize hK1 : kk _ = K1
    ((repeat ((conv => whnf); first | refine brT ?_ | refine brF ?_)); conv => whnf)
    (refine ⟨fun h2 => ?_, fun h2 => ?_⟩ <;> rw [h2])
    · have hbl : b < N := by rw [ltI_t] at h2; omega
      have e2 := step_i (n := N) hbl (by unfold Go.maxLen; omega)
      have eb : iter (fun b R => iter (cellC P Q a b) N R) (b + 1) R = iter (cellC P Q a b) N (iter (fun b R => iter (cellC P Q a b) N R) b R) := rfl
      generalize iter (fun b R => iter (cellC P Q a b) N R) b R = S at eb
      ((repeat ((conv => whnf); first | refine brT ?_ | refine brF ?_)); conv => whnf)
      intro _
      rw [linesS_len]
      ((repeat ((conv => whnf); first | refine brT ?_ | refine brF ?_)); conv => whnf)
      refine loop_ruleR (α := Nat) [.old 0] (fun c => [(46, .undef), (24, .int .i64 (c : Int))]) (fun c => [.tree 65 1 ((gridP N (iter (cellC P Q a b) c S)).map lineOw)]) (fun c => N - c) (fun c => c ≤ N) 0 (Nat.zero_le _) ?_ ?_
      · refine ⟨?_, ⟨rfl, rfl, trivial⟩, rfl⟩
        ((repeat ((conv => whnf); refine ⟨rfl, rfl, ?_⟩)); trivial)
      intro c hc
      generalize hK2 : kk _ = K2
      ((repeat ((conv => whnf); first | refine brT ?_ | refine brF ?_)); conv => whnf)
      (refine ⟨fun h3 => ?_, fun h3 => ?_⟩ <;> rw [h3])
      · have hcl : c < N := by rw [ltI_t] at h3; omega
        have e3 := step_i (n := N) hcl (by unfold Go.maxLen; omega)
        have ec : iter (cellC P Q a b) (c + 1) S = cellC P Q a b c (iter (cellC P Q a b) c S) := rfl
        generalize iter (cellC P Q a b) c S = T at ec
        ((repeat ((conv => whnf); first | refine brT ?_ | refine brF ?_)); conv => whnf)
        refine ⟨a, lineSl (lineP N P a), rfl, linesS_get hal, rfl, ?_⟩
        ((repeat ((conv => whnf); first | refine brT ?_ | refine brF ?_)); conv => whnf)
        refine ⟨b, .bool (P a b), rfl, cell_get hbl, rfl, ?_⟩
        ((repeat ((conv => whnf); first | refine brT ?_ | refine brF ?_)); conv => whnf)
        (refine ⟨fun h4 => ?_, fun h4 => ?_⟩ <;> rw [h4])
        · ((repeat ((conv => whnf); first | refine brT ?_ | refine brF ?_)); conv => whnf)
          refine ⟨b, lineSl (lineP N Q b), rfl, linesS_get hbl, rfl, ?_⟩
          ((repeat ((conv => whnf); first | refine brT ?_ | refine brF ?_)); conv => whnf)
          refine ⟨c, .bool (Q b c), rfl, cell_get hcl, rfl, ?_⟩
          ((repeat ((conv => whnf); first | refine brT ?_ | refine brF ?_)); conv => whnf)
          (refine ⟨fun h5 => ?_, fun h5 => ?_⟩ <;> rw [h5])
          · ((repeat ((conv => whnf); first | refine brT ?_ | refine brF ?_)); conv => whnf)
            have eq : cellC P Q a b c T = putP T a c true := by simp only [cellC, h4, h5]; rfl
            refine ⟨lines_len.symm, rfl, a, rfl, by rw [lines_len]; exact hal, ?_⟩
            ((repeat ((conv => whnf); first | refine brT ?_ | refine brF ?_)); conv => whnf)
            refine ⟨lines_len.symm, lineOw (lineP N T a), lineOw (lineP N T a), lines_get hal, rfl, ?_⟩
            ((repeat ((conv => whnf); first | refine brT ?_ | refine brF ?_)); conv => whnf)
            refine ⟨rfl, rfl, c, rfl, by rw [cells_len]; exact hcl, ?_⟩
            ((repeat ((conv => whnf); first | refine brT ?_ | refine brF ?_)); conv => whnf)
            refine ⟨rfl, c, [], .bool (T a c), rfl, by simp only [getP]; rw [cell_get hcl], rfl, rfl, rfl, (lineP N (putP T a c true) a).map bLV, by rw [cell_get hcl]; exact cells_put, ?_⟩
            ((repeat ((conv => whnf); first | refine brT ?_ | refine brF ?_)); conv => whnf)
            refine round_endR [.old 0] (c + 1) hcl (by omega) ⟨?_, ⟨by rw [cells_len, cells_len], rfl, congrArg (Blk.tree 65 1) (by rw [ec, eq]; exact lines_put), trivial⟩, rfl⟩
            ((repeat ((conv => whnf); first | refine ⟨rfl, e3, ?_⟩ | refine ⟨rfl, rfl, ?_⟩)); trivial)
          · ((repeat ((conv => whnf); first | refine brT ?_ | refine brF ?_)); conv => whnf)
            have eq : cellC P Q a b c T = T := by simp only [cellC, h4, h5]; rfl
            refine round_endR [.old 0] (c + 1) hcl (by omega) ⟨?_, ⟨rfl, congrArg (fun P => Blk.tree 65 1 ((gridP N P).map lineOw)) (by rw [ec, eq]), trivial⟩, rfl⟩
            ((repeat ((conv => whnf); first | refine ⟨rfl, e3, ?_⟩ | refine ⟨rfl, rfl, ?_⟩)); trivial)
        · ((repeat ((conv => whnf); first | refine brT ?_ | refine brF ?_)); conv => whnf)
          have eq : cellC P Q a b c T = T := by simp only [cellC, h4]; rfl
          refine round_endR [.old 0] (c + 1) hcl (by omega) ⟨?_, ⟨rfl, congrArg (fun P => Blk.tree 65 1 ((gridP N P).map lineOw)) (by rw [ec, eq]), trivial⟩, rfl⟩
          ((repeat ((conv => whnf); first | refine ⟨rfl, e3, ?_⟩ | refine ⟨rfl, rfl, ?_⟩)); trivial)
      · have hcl : c = N := by rw [ltI_f] at h3; omega
        subst hcl
        subst hK2
        ((repeat ((conv => whnf); first | refine brT ?_ | refine brF ?_)); conv => whnf)
        refine round_endR [.old 0] (b + 1) hbl (by omega) ⟨?_, ⟨rfl, congrArg (fun P => Blk.tree 65 1 ((gridP c P).map lineOw)) eb.symm, trivial⟩, rfl⟩
        ((repeat ((conv => whnf); first | refine ⟨rfl, e2, ?_⟩ | refine ⟨rfl, rfl, ?_⟩)); trivial)
    · have hbl : b = N := by rw [ltI_f] at h2; omega
      subst hbl
      subst hK1
      ((repeat ((conv => whnf); first | refine brT ?_ | refine brF ?_)); conv => whnf)
      refine round_endR [.old 0] (a + 1) hal (by omega) ⟨?_, ⟨rfl, congrArg (fun P => Blk.tree 65 1 ((gridP b P).map lineOw)) ea.symm, trivial⟩, rfl⟩
      ((repeat ((conv => whnf); first | refine ⟨rfl, e1, ?_⟩ | refine ⟨rfl, rfl, ?_⟩)); trivial)
  · have hal : a = N := by rw [ltI_f] at h1; omega
    subst hal
    subst hK0
    ((repeat ((conv => whnf); first | refine brT ?_ | refine brF ?_)); conv => whnf)
    exact ⟨[.hs 0 a], rfl, rfl, .inl ⟨⟨rfl, trivial⟩, ⟨congrArg (fun g : List (List Bool) => Blk.tree 65 1 (g.map lineOw)) (compR_rows a P Q), trivial⟩, rfl, rfl⟩⟩

end Go.Proofs.YtgockgehbnekbaaGreat
namespace Go.Proofs.YtgockgehbnekbaaGreat
open Go.Lg
set_option maxHeartbeats 3200000
set_option maxRecDepth 10000
set_option linter.unusedVariables false
set_option linter.unusedSimpArgs false

theorem specFor_h (ps : List Per) (us : List Uni) (e : Int) (ss : List Pr) :
    HSpec env.P 7 [famLV ps us, typLV e ss] [] (relHS (forN ps us e ss) 0 ((relRows (forN ps us e ss) (walkTo ps us e ss ss.length)).map rowOw).length) [.tree 51 1 ((relRows (forN ps us e ss) (walkTo ps us e ss ss.length)).map rowOw)] := by
  refine HSpec_of_code (E := env.x [28, 29, 30, 31] 0) env_ok.x (fn := Tryz.f7) Tryz.func7 rfl Tryz.call7 _ _ _ _ ?_
  have hno : (famOk ps us && typB e ss) = false → forN ps us e ss = 0 := fun h => by unfold forN; rw [h]
  ((repeat ((conv => whnf); first | refine brT ?_ | refine brF ?_)); conv => whnf)
  refine ⟨_, isFamily_spec ps us, ?_⟩
  ((repeat ((conv => whnf); first | refine brT ?_ | refine brF ?_)); conv => whnf)
  (refine ⟨fun h => ?_, fun h => ?_⟩ <;> rw [h])
  · rw [notB_t] at h
    rw [hno (by rw [h]; rfl)]
    ((repeat ((conv => whnf); first | refine brT ?_ | refine brF ?_)); conv => whnf)
    exact ⟨[relHS 0 0 0], rfl, rfl, .nl [.tmp 0 [1] true 51 1] [.old 3] ⟨⟨rfl, rfl, trivial⟩, ⟨rfl, rfl, trivial⟩, rfl⟩⟩
  rw [notB_f] at h
  ((repeat ((conv => whnf); first | refine brT ?_ | refine brF ?_)); conv => whnf)
  refine ⟨_, isType_spec e ss, ?_⟩
  ((repeat ((conv => whnf); first | refine brT ?_ | refine brF ?_)); conv => whnf)
  (refine ⟨fun h2 => ?_, fun h2 => ?_⟩ <;> rw [h2])
  · rw [notB_t] at h2
    rw [hno (by rw [h, h2]; rfl)]
    ((repeat ((conv => whnf); first | refine brT ?_ | refine brF ?_)); conv => whnf)
    exact ⟨[relHS 0 0 0], rfl, rfl, .nl [.tmp 0 [1] true 51 1] [.old 3] ⟨⟨rfl, rfl, trivial⟩, ⟨rfl, rfl, trivial⟩, rfl⟩⟩
  rw [notB_f] at h2
  rw [show forN ps us e ss = ps.length by unfold forN; rw [h, h2]; rfl]
  have hN := (famOk_parts h).1
  have hS := typB_len h2
  ((repeat ((conv => whnf); first | refine brT ?_ | refine brF ?_)); conv => whnf)
  intro hm
  have hm' : ps.length ≤ Go.maxLen := by simpa using hm
  rw [show (List.map Per.lv ps).length = ps.length by simp]
  ((repeat ((conv => whnf); first | refine brT ?_ | refine brF ?_)); conv => whnf)
  refine ⟨[], _, _, _, _, l2Blank_P ps.length hN, rfl, rfl, rfl, trivial, ?_⟩
  rw [← egoTo_zero ps e]
  ((repeat ((conv => whnf); first | refine brT ?_ | refine brF ?_)); conv => whnf)
  intro _
  rw [show (List.map Per.lv ps).length = ps.length by simp]
  ((repeat ((conv => whnf); first | refine brT ?_ | refine brF ?_)); conv => whnf)
  refine loop_ruleR (α := Nat) [.old 0, .old 1, .old 2, .old 3] (fun k => [(26, .int .i64 (k : Int))])
    (fun k => [.box (famLV ps us), .box (typLV e ss), .box (.st [.int .i64 0, .nil]), .tree 65 1 ((gridP ps.length (egoTo ps e k)).map lineOw)]) (fun k => ps.length - k) (fun k => k ≤ ps.length) 0 (Nat.zero_le _) ?_ ?_
  · refine ⟨?_, ⟨rfl, rfl, rfl, rfl, rfl, rfl, rfl, rfl, trivial⟩, rfl⟩
    ((repeat ((conv => whnf); refine ⟨rfl, rfl, ?_⟩)); trivial)
  intro k hk
  generalize hKK : kk _ = KK
  ((repeat ((conv => whnf); first | refine brT ?_ | refine brF ?_)); conv => whnf)
  (refine ⟨fun g1 => ?_, fun g1 => ?_⟩ <;> rw [g1])
  · have hlt : k < ps.length := by rw [ltI_t] at g1; omega
    have e1 := step_i hlt hm'
    have ep := egoTo_put (e := e) hlt
    ((repeat ((conv => whnf); first | refine brT ?_ | refine brF ?_)); conv => whnf)
    refine ⟨k, ps[k].lv, rfl, by simp [hlt], rfl, ?_⟩
    ((repeat ((conv => whnf); first | refine brT ?_ | refine brF ?_)); conv => whnf)
    refine ⟨false, 15, by kernel_rfl, ?_⟩
    ((repeat ((conv => whnf); first | refine brT ?_ | refine brF ?_)); conv => whnf)
    refine ⟨lines_len.symm, rfl, k, rfl, by rw [lines_len]; exact hlt, ?_⟩
    ((repeat ((conv => whnf); first | refine brT ?_ | refine brF ?_)); conv => whnf)
    refine ⟨lines_len.symm, lineOw (lineP ps.length (egoTo ps e k) k), lineOw (lineP ps.length (egoTo ps e k) k), lines_get hlt, rfl, ?_⟩
    have e4 : ((gridP ps.length (egoTo ps e k)).map lineOw).set k (lineOw (lineP ps.length (egoTo ps e (k + 1)) k)) = (gridP ps.length (egoTo ps e (k + 1))).map lineOw := by rw [← ep]; exact lines_put
    ((repeat ((conv => whnf); first | refine brT ?_ | refine brF ?_)); conv => whnf)
    (refine ⟨fun q => ?_, fun q => ?_⟩ <;> rw [q])
    · have hv : egoB e ps[k] = true := by unfold egoB; rw [q]; rfl
      rw [hv] at ep
      ((repeat ((conv => whnf); first | refine brT ?_ | refine brF ?_)); conv => whnf)
      refine ⟨rfl, rfl, k, rfl, by rw [cells_len]; exact hlt, ?_⟩
      ((repeat ((conv => whnf); first | refine brT ?_ | refine brF ?_)); conv => whnf)
      refine ⟨rfl, k, [], .bool (egoTo ps e k k k), rfl, by simp only [getP]; rw [cell_get hlt], rfl, rfl, rfl, (lineP ps.length (egoTo ps e (k + 1)) k).map bLV, by rw [cell_get hlt, ← ep]; exact cells_put, ?_⟩
      ((repeat ((conv => whnf); first | refine brT ?_ | refine brF ?_)); conv => whnf)
      refine round_endR [.old 0, .old 1, .old 2, .old 3] (k + 1) hlt (by omega) ⟨?_, ⟨by rw [cells_len, cells_len], rfl, rfl, rfl, rfl, rfl, rfl, rfl, congrArg (Blk.tree 65 1) e4, trivial⟩, rfl⟩
      ((repeat ((conv => whnf); first | refine ⟨rfl, e1, ?_⟩ | refine ⟨rfl, rfl, ?_⟩)); trivial)
    · have hv : egoB e ps[k] = eqI e ps[k].sex := by unfold egoB; rw [q]; rfl
      rw [hv] at ep
      ((repeat ((conv => whnf); first | refine brT ?_ | refine brF ?_)); conv => whnf)
      refine ⟨rfl, rfl, k, rfl, by rw [cells_len]; exact hlt, ?_⟩
      ((repeat ((conv => whnf); first | refine brT ?_ | refine brF ?_)); conv => whnf)
      refine ⟨rfl, k, [], .bool (egoTo ps e k k k), rfl, by simp only [getP]; rw [cell_get hlt], rfl, rfl, rfl, (lineP ps.length (egoTo ps e (k + 1)) k).map bLV, by rw [cell_get hlt, ← ep]; exact cells_put, ?_⟩
      ((repeat ((conv => whnf); first | refine brT ?_ | refine brF ?_)); conv => whnf)
      refine round_endR [.old 0, .old 1, .old 2, .old 3] (k + 1) hlt (by omega) ⟨?_, ⟨by rw [cells_len, cells_len], rfl, rfl, rfl, rfl, rfl, rfl, rfl, congrArg (Blk.tree 65 1) e4, trivial⟩, rfl⟩
      ((repeat ((conv => whnf); first | refine ⟨rfl, e1, ?_⟩ | refine ⟨rfl, rfl, ?_⟩)); trivial)
  · have h3 : k = ps.length := by rw [ltI_f] at g1; omega
    subst h3
    subst hKK
    ((repeat ((conv => whnf); first | refine brT ?_ | refine brF ?_)); conv => whnf)
    intro hm2
    rw [show (List.map Pr.lv ss).length = ss.length by simp]
    ((repeat ((conv => whnf); first | refine brT ?_ | refine brF ?_)); conv => whnf)
    refine loop_ruleR (α := Nat) [.old 0, .old 1, .old 2, .old 3] (fun k => [(5, .hs 3 ps.length), (22, .undef), (51, .int .i64 (k : Int))])
      (fun k => [.box (famLV ps us), .box (typLV e ss), .box (.st [.int .i64 0, .nil]), .tree 65 1 ((gridP ps.length (walkTo ps us e ss k)).map lineOw)]) (fun k => ss.length - k) (fun k => k ≤ ss.length) 0 (Nat.zero_le _) ?_ ?_
    · refine ⟨?_, ⟨rfl, rfl, rfl, rfl, rfl, rfl, rfl, rfl, trivial⟩, rfl⟩
      ((repeat ((conv => whnf); refine ⟨rfl, rfl, ?_⟩)); trivial)
    intro k hk
    generalize hKK : kk _ = KK
    ((repeat ((conv => whnf); first | refine brT ?_ | refine brF ?_)); conv => whnf)
    (refine ⟨fun g2 => ?_, fun g2 => ?_⟩ <;> rw [g2])
    · have hlt : k < ss.length := by rw [ltI_t] at g2; omega
      have e1 := step_i hlt (by unfold Go.maxLen; omega)
      have ew := walkTo_succ (ps := ps) (us := us) (e := e) hlt
      ((repeat ((conv => whnf); first | refine brT ?_ | refine brF ?_)); conv => whnf)
      refine ⟨k, ss[k].lv, rfl, by simp [hlt], rfl, ?_⟩
      ((repeat ((conv => whnf); first | refine brT ?_ | refine brF ?_)); conv => whnf)
      refine ⟨[], _, _, _, _, l3Grid_h ps us ss[k] hN, rfl, rfl, rfl, trivial, ?_⟩
      ((repeat ((conv => whnf); first | refine brT ?_ | refine brF ?_)); conv => whnf)
      refine ⟨[], _, _, _, _, l2Compose_h ps.length (walkTo ps us e ss k) (doneP ps.length (l3P ps us ss[k]) ps.length 0) hN, rfl, ?_⟩
      ((repeat ((conv => whnf); first | refine brT ?_ | refine brF ?_)); conv => whnf)
      refine ⟨lines_len.symm, _, dms_lines _, ?_⟩
      ((repeat ((conv => whnf); first | refine brT ?_ | refine brF ?_)); conv => whnf)
      refine ⟨lines_len.symm, _, dms_lines _, ?_⟩
      ((repeat ((conv => whnf); first | refine brT ?_ | refine brF ?_)); conv => whnf)
      refine ⟨rfl, rfl, ⟨rfl, flatTs_lines _, trivial⟩, ?_⟩
      ((repeat ((conv => whnf); first | refine brT ?_ | refine brF ?_)); conv => whnf)
      have e4 : (gridP ps.length (compP ps.length (walkTo ps us e ss k) (doneP ps.length (l3P ps us ss[k]) ps.length 0))).map lineOw = (gridP ps.length (walkTo ps us e ss (k + 1))).map lineOw := by
        rw [ew, gridP_ext (compP_ext (fun _ _ _ _ => rfl) (doneP_all ps.length (l3P ps us ss[k])))]
      refine round_endR [.old 0, .old 1, .old 2, .old 6] (k + 1) hlt (by omega) ⟨?_, ⟨rfl, rfl, rfl, rfl, rfl, rfl, rfl, congrArg (Blk.tree 65 1) e4, trivial⟩, rfl⟩
      ((repeat ((conv => whnf); first | refine ⟨rfl, e1, ?_⟩ | refine ⟨rfl, rfl, ?_⟩)); trivial)
    · have h3 : k = ss.length := by rw [ltI_f] at g2; omega
      subst h3
      subst hKK
      ((repeat ((conv => whnf); first | refine brT ?_ | refine brF ?_)); conv => whnf)
      refine ⟨[], _, _, _, _, l2Of_P ps.length (walkTo ps us e ss ss.length) hN, rfl, ?_⟩
      ((repeat ((conv => whnf); first | refine brT ?_ | refine brF ?_)); conv => whnf)
      refine ⟨lines_len.symm, _, dms_lines _, ?_⟩
      ((repeat ((conv => whnf); first | refine brT ?_ | refine brF ?_)); conv => whnf)
      refine ⟨rfl, rfl, ⟨rfl, flatTs_rows _, trivial⟩, ?_⟩
      ((repeat ((conv => whnf); first | refine brT ?_ | refine brF ?_)); conv => whnf)
      refine ⟨[relHS ps.length 0 ((relRows ps.length (walkTo ps us e ss ss.length)).map rowOw).length], rfl, rfl, .inr ⟨[.old 4], ⟨rfl, rfl, trivial⟩, ⟨rfl, rfl, trivial⟩, rfl⟩⟩
end Go.Proofs.YtgockgehbnekbaaGreat

namespace Go.Proofs.YtgockgehbnekbaaGreat
open Go.Lg
set_option maxHeartbeats 6400000
set_option maxRecDepth 10000
set_option linter.unusedVariables false
set_option linter.unusedSimpArgs false

theorem forN_le {ps : List Per} {us : List Uni} {e : Int} {ss : List Pr} : forN ps us e ss ≤ 40 := by
  unfold forN
  cases h : famOk ps us
  · simp
  · have := (famOk_parts h).1
    cases typB e ss <;> simp <;> omega
theorem law_relationFor (ps : List Per) (us : List Uni) (e : Int) (ss : List Pr) (hf : FamOK ps us) (hl : ss.length ≤ Go.maxLen) : FSpec env.P 3 [famLV ps us, typLV e ss] (.bool true) := by
  refine FSpec_of_code (E := env.x [8, 9, 10, 14, 15, 16] 0) env_ok.x (fn := Tryz.f3) Tryz.func3 rfl Tryz.call3 _ _ ?_
  have hR := tot_relRows (P := walkTo ps us e ss ss.length) (forN_le (ps := ps) (us := us) (e := e) (ss := ss))
  have hS := rel_f (specFor_h ps us e ss)
  have hI := implFor_h ps us e ss
  generalize hRR : relRows (forN ps us e ss) (walkTo ps us e ss ss.length) = R at hR hS hI
  generalize hNN : forN ps us e ss = N at hS hI
  have hJ := rel_f hI
  ((repeat ((conv => whnf); first | refine brT ?_ | refine brF ?_)); conv => whnf)
  refine ⟨_, szFamily_spec ps us _, ?_⟩
  ((repeat ((conv => whnf); first | refine brT ?_ | refine brF ?_)); conv => whnf)
  (refine ⟨fun h => ?_, fun h => ?_⟩ <;> rw [h])
  · ((repeat ((conv => whnf); first | refine brT ?_ | refine brF ?_)); conv => whnf); exact fin rfl
  rw [ltI_f] at h
  obtain ⟨p1, u1, s1⟩ := szFam_ok (by omega) (by omega) hf h
  ((repeat ((conv => whnf); first | refine brT ?_ | refine brF ?_)); conv => whnf)
  refine ⟨_, szKinType_spec e ss _, ?_⟩
  ((repeat ((conv => whnf); first | refine brT ?_ | refine brF ?_)); conv => whnf)
  (refine ⟨fun h3 => ?_, fun h3 => ?_⟩ <;> rw [h3])
  · ((repeat ((conv => whnf); first | refine brT ?_ | refine brF ?_)); conv => whnf); exact fin rfl
  rw [ltI_f] at h3
  obtain ⟨-, t1, -, hb, -⟩ := szT_ok (l := szFam 1048576 ps us) (by omega) (by omega) hl h3
  ((repeat ((conv => whnf); first | refine brT ?_ | refine brF ?_)); conv => whnf)
  refine ⟨true, by kernel_rfl, ?_⟩
  ((repeat ((conv => whnf); first | refine brT ?_ | refine brF ?_)); conv => whnf)
  refine ⟨_, toFamily_spec ps us p1 u1, ?_⟩
  ((repeat ((conv => whnf); first | refine brT ?_ | refine brF ?_)); conv => whnf)
  refine ⟨_, toKinType_f e ss hb, ?_⟩
  ((repeat ((conv => whnf); first | refine brT ?_ | refine brF ?_)); conv => whnf)
  refine ⟨_, hS, ?_⟩
  ((repeat ((conv => whnf); first | refine brT ?_ | refine brF ?_)); conv => whnf)
  refine ⟨[], _, _, _, _, toFamily_hm ps us p1 u1, rfl, rfl, rfl, trivial, ?_⟩
  ((repeat ((conv => whnf); first | refine brT ?_ | refine brF ?_)); conv => whnf)
  refine ⟨[], _, _, _, _, toKinType_h e ss hb, rfl, rfl, rfl, trivial, ?_⟩
  ((repeat ((conv => whnf); first | refine brT ?_ | refine brF ?_)); conv => whnf)
  refine ⟨[], _, _, _, _, hI, rfl, ?_⟩
  ((repeat ((conv => whnf); first | refine brT ?_ | refine brF ?_)); conv => whnf)
  refine ⟨rfl, ?_⟩
  ((repeat ((conv => whnf); first | refine brT ?_ | refine brF ?_)); conv => whnf)
  refine ⟨rfl, ?_⟩
  ((repeat ((conv => whnf); first | refine brT ?_ | refine brF ?_)); conv => whnf)
  refine ⟨rfl, ?_⟩
  ((repeat ((conv => whnf); first | refine brT ?_ | refine brF ?_)); conv => whnf)
  refine ⟨rfl, rfl, ⟨rfl, flatTs_rows _, trivial⟩, ?_⟩
  ((repeat ((conv => whnf); first | refine brT ?_ | refine brF ?_)); conv => whnf)
  refine ⟨rfl, _, dms_rows _, ?_⟩
  ((repeat ((conv => whnf); first | refine brT ?_ | refine brF ?_)); conv => whnf)
  refine ⟨_, eqRelation_spec _ _ _ _, ?_⟩
  rw [eqRel_refl]
  ((repeat ((conv => whnf); first | refine brT ?_ | refine brF ?_)); conv => whnf)
  rw [show notB true = false by simp [notB]]
  ((repeat ((conv => whnf); first | refine brT ?_ | refine brF ?_)); conv => whnf)
  refine ⟨true, by kernel_rfl, ?_⟩
  ((repeat ((conv => whnf); first | refine brT ?_ | refine brF ?_)); conv => whnf)
  refine ⟨_, toFamily_spec ps us p1 u1, ?_⟩
  ((repeat ((conv => whnf); first | refine brT ?_ | refine brF ?_)); conv => whnf)
  refine ⟨rfl, ?_⟩
  ((repeat ((conv => whnf); first | refine brT ?_ | refine brF ?_)); conv => whnf)
  refine ⟨rfl, ?_⟩
  ((repeat ((conv => whnf); first | refine brT ?_ | refine brF ?_)); conv => whnf)
  refine ⟨_, eqFamily_spec ps ps us us, ?_⟩
  rw [eqFam_refl]
  ((repeat ((conv => whnf); first | refine brT ?_ | refine brF ?_)); conv => whnf)
  rw [show notB true = false by simp [notB]]
  ((repeat ((conv => whnf); first | refine brT ?_ | refine brF ?_)); conv => whnf)
  refine ⟨true, by kernel_rfl, ?_⟩
  ((repeat ((conv => whnf); first | refine brT ?_ | refine brF ?_)); conv => whnf)
  refine ⟨_, toKinType_f e ss hb, ?_⟩
  ((repeat ((conv => whnf); first | refine brT ?_ | refine brF ?_)); conv => whnf)
  refine ⟨rfl, ?_⟩
  ((repeat ((conv => whnf); first | refine brT ?_ | refine brF ?_)); conv => whnf)
  refine ⟨_, eqKinType_spec e ss e ss, ?_⟩
  rw [eqTyp_refl]
  ((repeat ((conv => whnf); first | refine brT ?_ | refine brF ?_)); conv => whnf)
  rw [show notB true = false by simp [notB]]
  ((repeat ((conv => whnf); first | refine brT ?_ | refine brF ?_)); conv => whnf)
  refine ⟨[3, 4], _, _, _, _, markFamily_hm ps us 1 (by omega), rfl, rfl, rfl, trivial, ?_⟩
  ((repeat ((conv => whnf); first | refine brT ?_ | refine brF ?_)); conv => whnf)
  refine ⟨[6], _, _, _, _, markKinType_spec e ss _ rfl (1 + 6 * ps.length + 4 * us.length) (by omega), rfl, rfl, rfl, trivial, ?_⟩
  ((repeat ((conv => whnf); first | refine brT ?_ | refine brF ?_)); conv => whnf)
  rw [show ltI ((1 + 6 * ps.length + 4 * us.length + 2 * ss.length : Nat) : Int) 0 = false by rw [ltI_f]; omega]
  ((repeat ((conv => whnf); first | refine brT ?_ | refine brF ?_)); conv => whnf)
  refine ⟨rfl, _, dms_rows _, ?_⟩
  ((repeat ((conv => whnf); first | refine brT ?_ | refine brF ?_)); conv => whnf)
  refine ⟨_, eqRelation_spec _ _ _ _, ?_⟩
  rw [eqRel_refl]
  ((repeat ((conv => whnf); first | refine brT ?_ | refine brF ?_)); conv => whnf)
  rw [show notB true = false by simp [notB]]
  ((repeat ((conv => whnf); first | refine brT ?_ | refine brF ?_)); conv => whnf)
  refine ⟨[8], _, _, _, _, markRelation_spec _ _ _ rfl 1 (by omega) (by omega), rfl, rfl, rfl, trivial, ?_⟩
  ((repeat ((conv => whnf); first | refine brT ?_ | refine brF ?_)); conv => whnf)
  refine ⟨by simp [markRows_len], _, dms_rows _, ?_⟩
  ((repeat ((conv => whnf); first | refine brT ?_ | refine brF ?_)); conv => whnf)
  refine ⟨_, heldRelation_spec _ R 1 (by omega) (by omega), ?_⟩
  ((repeat ((conv => whnf); first | refine brT ?_ | refine brF ?_)); conv => whnf)
  rw [show ltI (1 + (tot R : Int)) 0 = false by rw [ltI_f]; omega]
  ((repeat ((conv => whnf); first | refine brT ?_ | refine brF ?_)); conv => whnf)
  rw [eqI_refl, show notB true = false by simp [notB]]
  ((repeat ((conv => whnf); first | refine brT ?_ | refine brF ?_)); conv => whnf)
  refine ⟨true, by kernel_rfl, ?_⟩
  ((repeat ((conv => whnf); first | refine brT ?_ | refine brF ?_)); conv => whnf)
  refine ⟨_, toFamily_spec ps us p1 u1, ?_⟩
  ((repeat ((conv => whnf); first | refine brT ?_ | refine brF ?_)); conv => whnf)
  refine ⟨_, toKinType_f e ss hb, ?_⟩
  ((repeat ((conv => whnf); first | refine brT ?_ | refine brF ?_)); conv => whnf)
  refine ⟨_, hJ, ?_⟩
  ((repeat ((conv => whnf); first | refine brT ?_ | refine brF ?_)); conv => whnf)
  refine ⟨_, eqRelation_spec _ _ _ _, ?_⟩
  rw [eqRel_refl]
  ((repeat ((conv => whnf); first | refine brT ?_ | refine brF ?_)); conv => whnf)
  rw [show notB true = false by simp [notB]]
  ((repeat ((conv => whnf); first | refine brT ?_ | refine brF ?_)); conv => whnf)
  refine ⟨by simp [markRows_len], _, dms_rows _, ?_⟩
  ((repeat ((conv => whnf); first | refine brT ?_ | refine brF ?_)); conv => whnf)
  refine ⟨_, heldRelation_spec _ R 1 (by omega) (by omega), ?_⟩
  ((repeat ((conv => whnf); first | refine brT ?_ | refine brF ?_)); conv => whnf)
  rw [show ltI (1 + (tot R : Int)) 0 = false by rw [ltI_f]; omega]
  ((repeat ((conv => whnf); first | refine brT ?_ | refine brF ?_)); conv => whnf)
  rw [eqI_refl, show notB true = false by simp [notB]]
  ((repeat ((conv => whnf); first | refine brT ?_ | refine brF ?_)); conv => whnf)
  exact fin rfl
end Go.Proofs.YtgockgehbnekbaaGreat

namespace Go.Proofs.YtgockgehbnekbaaGreat
open Go.Lg Go.RowKit Go.ChangeShapes Go.WideShapes Go.Deep Go.Joins
set_option linter.unusedVariables false
set_option linter.unusedSimpArgs false
set_option maxRecDepth 100000

theorem per_of_shape : ∀ {ls : List LV}, shapeK [.str, .int .i64, .int .i64, .int .i64, .int .i64, .int .i64] ls → ∃ p : Per, LV.st ls = p.lv ∧ p.name.size ≤ maxLen
  | [a, b, c, d, e, f], h => by
    obtain ⟨⟨s, rfl, hs⟩, ⟨n1, rfl⟩, ⟨n2, rfl⟩, ⟨n3, rfl⟩, ⟨n4, rfl⟩, ⟨n5, rfl⟩, _⟩ := h
    exact ⟨⟨s, n1, n2, n3, n4, n5⟩, rfl, hs⟩
theorem uni_of_shape : ∀ {ls : List LV}, shapeK [.int .i64, .int .i64, .int .i64, .int .i64] ls → ∃ p : Uni, LV.st ls = p.lv ∧ True
  | [b, c, d, e], h => by
    obtain ⟨⟨n1, rfl⟩, ⟨n2, rfl⟩, ⟨n3, rfl⟩, ⟨n4, rfl⟩, _⟩ := h
    exact ⟨⟨n1, n2, n3, n4⟩, rfl, trivial⟩
theorem list_of {α : Type} {lv : α → LV} {Q : α → Prop} : ∀ (xs : List LV), (∀ x ∈ xs, ∃ p, x = lv p ∧ Q p) → ∃ ps : List α, xs = ps.map lv ∧ ∀ p ∈ ps, Q p
  | [], _ => ⟨[], rfl, by simp⟩
  | x :: xs, h => by
    obtain ⟨p, rfl, hp⟩ := h x (by simp)
    obtain ⟨ps, rfl, hps⟩ := list_of xs fun y hy => h y (by simp [hy])
    exact ⟨p :: ps, rfl, List.forall_mem_cons.2 ⟨hp, hps⟩⟩

section
variable {H : Type} {enc : TypeId × Value → H} {w : World}
theorem fam_of_arg {b0 : Nat} {r : Reach} {v : Value} {d : DataW H} {p : List MemPlace} (hv : Value.okWide Tryz.prog w r b0 25 v) (h : DataW.Trod enc Tryz.prog w 0 (fun _ => true) true 25 v d p) :
    ∃ ps us, FamOK ps us ∧ RT (pctx (fun _ => False) w) (famLV ps us) v := by
  obtain ⟨v0, v1, y0, y1, n, rfl, _, _, h0, h1⟩ := open_agg2 Tryz.underlying25 (by kernel_rfl) (by kernel_rfl) hv h
  obtain ⟨xs, r0, l0, s0⟩ := sl_of_rows (O := fun _ => False) (fun _ h => h) (ks := [.str, .int .i64, .int .i64, .int .i64, .int .i64, .int .i64]) Tryz.underlying22 Tryz.underlying91 (by kernel_rfl) (by kernel_rfl) (fieldsK_of (by kernel_rfl)) (by decide) h0
  obtain ⟨ys, r1, l1, s1⟩ := sl_of_rows (O := fun _ => False) (fun _ h => h) (ks := [.int .i64, .int .i64, .int .i64, .int .i64]) Tryz.underlying23 Tryz.underlying101 (by kernel_rfl) (by kernel_rfl) (fieldsK_of (by kernel_rfl)) (by decide) h1
  obtain ⟨ps, rfl, hps⟩ := list_of (lv := Per.lv) (Q := fun p => p.name.size ≤ maxLen) xs fun x hx => by obtain ⟨ls, rfl, hs⟩ := s0 x hx; exact per_of_shape hs
  obtain ⟨us, rfl, _⟩ := list_of (lv := Uni.lv) (Q := fun _ => True) ys fun x hx => by obtain ⟨ls, rfl, hs⟩ := s1 x hx; exact uni_of_shape hs
  refine ⟨ps, us, ⟨by simpa using l0, by simpa using l1, hps⟩, #[v0, v1], rfl, [v0], [v1], rfl, r0, [v1], [], rfl, r1, by simp [RCs]⟩
end
end Go.Proofs.YtgockgehbnekbaaGreat

namespace Go.Proofs.YtgockgehbnekbaaGreat
open Go.Lg
set_option maxRecDepth 10000
set_option linter.unusedVariables false
set_option linter.unusedSimpArgs false

/-! ### A family, out of an argument's shape -/
abbrev shPer : Sh := .st [.str, .int .i64, .int .i64, .int .i64, .int .i64, .int .i64]
abbrev shUni : Sh := .st [.int .i64, .int .i64, .int .i64, .int .i64]
abbrev shFam : Sh := .st [.sl (.st [.str, .int .i64, .int .i64, .int .i64, .int .i64, .int .i64]), .sl (.st [.int .i64, .int .i64, .int .i64, .int .i64])]
theorem per_of_sh {x : LV} (h : hasSh shPer x) : ∃ p : Per, x = p.lv ∧ p.name.size ≤ maxLen := by
  simp only [hasSh] at h
  obtain ⟨xs, rfl, h⟩ := h
  match xs, h with
  | [a, b, c, d, e, f], h =>
    simp only [hasShs, hasSh] at h
    obtain ⟨⟨s, rfl, hs⟩, ⟨n1, rfl⟩, ⟨n2, rfl⟩, ⟨n3, rfl⟩, ⟨n4, rfl⟩, ⟨n5, rfl⟩, _⟩ := h
    exact ⟨⟨s, n1, n2, n3, n4, n5⟩, rfl, hs⟩
  | [], h => simp [hasShs] at h
  | [_], h => simp [hasShs] at h
  | [_, _], h => simp [hasShs] at h
  | [_, _, _], h => simp [hasShs] at h
  | [_, _, _, _], h => simp [hasShs] at h
  | [_, _, _, _, _], h => simp [hasShs] at h
  | _ :: _ :: _ :: _ :: _ :: _ :: _ :: _, h => simp [hasShs] at h
theorem uni_of_sh {x : LV} (h : hasSh shUni x) : ∃ u : Uni, x = u.lv ∧ True := by
  simp only [hasSh] at h
  obtain ⟨xs, rfl, h⟩ := h
  match xs, h with
  | [a, b, c, d], h =>
    simp only [hasShs, hasSh] at h
    obtain ⟨⟨n1, rfl⟩, ⟨n2, rfl⟩, ⟨n3, rfl⟩, ⟨n4, rfl⟩, _⟩ := h
    exact ⟨⟨n1, n2, n3, n4⟩, rfl, trivial⟩
  | [], h => simp [hasShs] at h
  | [_], h => simp [hasShs] at h
  | [_, _], h => simp [hasShs] at h
  | [_, _, _], h => simp [hasShs] at h
  | _ :: _ :: _ :: _ :: _ :: _, h => simp [hasShs] at h
theorem fam_of_sh {x : LV} (h : hasSh shFam x) : ∃ (ps : List Per) (us : List Uni), x = famLV ps us ∧ FamOK ps us := by
  simp only [hasSh] at h
  obtain ⟨xs, rfl, h⟩ := h
  match xs, h with
  | [a, b], h =>
    simp only [hasShs, hasSh] at h
    obtain ⟨⟨ys, rfl, hl, hy⟩, ⟨zs, rfl, hm, hz⟩, _⟩ := h
    obtain ⟨ps, rfl, hps⟩ := list_of (lv := Per.lv) (Q := fun p => p.name.size ≤ maxLen) ys fun y hy' => per_of_sh (by simp only [hasSh]; exact hy y hy')
    obtain ⟨us, rfl, _⟩ := list_of (lv := Uni.lv) (Q := fun _ => True) zs fun y hy' => uni_of_sh (by simp only [hasSh]; exact hz y hy')
    exact ⟨ps, us, rfl, ⟨by simpa using hl, by simpa using hm, hps⟩⟩
  | [], h => simp [hasShs] at h
  | [_], h => simp [hasShs] at h
  | _ :: _ :: _ :: _, h => simp [hasShs] at h
end Go.Proofs.YtgockgehbnekbaaGreat
