/- Contracts of functions of the program and of its model, told over readings. -/
import Derived.Test.YtfoecpjebbgegaaCPE
import Derived.Test.YtfoecpjebbgegaaCPB
namespace Go.Proofs.Ytfoecpjebbgegaa
open Go.Lg
set_option maxHeartbeats 1600000
set_option maxRecDepth 10000
set_option linter.unusedVariables false
set_option linter.unusedSimpArgs false

/-- Two types that cannot be joined. -/
def refJ (e : Int) (ss : List Pr) (f : Int) (ts : List Pr) : Bool := notB (typB e ss) || (notB (typB f ts) || (notB (eqI f 0) && (notB (eqI (lastT e ss) 0) && notB (eqI f (lastT e ss)))))
def egoJ (e : Int) (ss : List Pr) (f : Int) : Int := match eqI e 0 with | true => (match eqI (ss.length : Int) 0 with | true => f | false => e) | false => e
def okJ (e : Int) (ss : List Pr) (f : Int) (ts : List Pr) : Bool := notB (refJ e ss f ts) && typB (egoJ e ss f) (ss ++ ts)
def joinE (e : Int) (ss : List Pr) (f : Int) (ts : List Pr) : Int := match okJ e ss f ts with | true => egoJ e ss f | false => 0
def joinL (e : Int) (ss : List Pr) (f : Int) (ts : List Pr) : List Pr := match okJ e ss f ts with | true => ss ++ ts | false => []
def joinLV (e : Int) (ss : List Pr) (f : Int) (ts : List Pr) : LV := .tup [.st [.int .i64 (joinE e ss f ts), .own 84 2 ((joinL e ss f ts).map Pr.lv)], .bool (okJ e ss f ts)]
theorem joinLV_no {e : Int} {ss : List Pr} {f : Int} {ts : List Pr} (h : okJ e ss f ts = false) : joinLV e ss f ts = .tup [.st [.int .i64 0, .own 84 2 []], .bool false] := by
  unfold joinLV joinE joinL; rw [h]; rfl
theorem joinLV_yes {e : Int} {ss : List Pr} {f : Int} {ts : List Pr} (h : okJ e ss f ts = true) : joinLV e ss f ts = .tup [.st [.int .i64 (egoJ e ss f), .own 84 2 ((ss ++ ts).map Pr.lv)], .bool true] := by
  unfold joinLV joinE joinL; rw [h]
theorem okJ_ref {e : Int} {ss : List Pr} {f : Int} {ts : List Pr} (h : refJ e ss f ts = true) : okJ e ss f ts = false := by unfold okJ; rw [h]; simp [notB]
theorem prSzJ (ss : List Pr) : ∀ y ∈ ss.map Pr.lv, y.size = 2 := fun y hy => by obtain ⟨p, _, rfl⟩ := List.mem_map.1 hy; rfl
theorem join_spec (e : Int) (ss : List Pr) (f : Int) (ts : List Pr) (hl : ss.length + ts.length ≤ 1048576) : FSpec env.P 50 [typLV e ss, typLV f ts] (joinLV e ss f ts) := by
  refine FSpec_of_code env_ok (fn := Try.f50) Try.func50 rfl Try.call50 _ _ ?_
  have b1 : (ss.map Pr.lv).length ≤ Go.maxLen := by rw [List.length_map]; unfold Go.maxLen; omega
  have b2 : (ss.map Pr.lv).length * 16 ≤ 140737488355328 := by rw [List.length_map]; omega
  have b3 : (ss.map Pr.lv ++ ts.map Pr.lv).length ≤ Go.maxLen := by rw [List.length_append, List.length_map, List.length_map]; unfold Go.maxLen; omega
  have b4 : (ss.map Pr.lv ++ ts.map Pr.lv).length * 16 ≤ 140737488355328 := by rw [List.length_append, List.length_map, List.length_map]; omega
  ((repeat ((conv => whnf); first | refine brT ?_ | refine brF ?_)); conv => whnf)
  refine ⟨true, by kernel_rfl, ?_⟩
  ((repeat ((conv => whnf); first | refine brT ?_ | refine brF ?_)); conv => whnf)
  refine ⟨_, isType_spec e ss, ?_⟩
  ((repeat ((conv => whnf); first | refine brT ?_ | refine brF ?_)); conv => whnf)
  (refine ⟨fun h1 => ?_, fun h1 => ?_⟩ <;> rw [h1])
  · rw [joinLV_no (okJ_ref (by unfold refJ; rw [h1]; rfl))]
    ((repeat ((conv => whnf); first | refine brT ?_ | refine brF ?_)); conv => whnf)
    exact ⟨_, rfl, rfl, rfl, rfl, by decide, rfl, rfl, List.nodup_nil⟩
  ((repeat ((conv => whnf); first | refine brT ?_ | refine brF ?_)); conv => whnf)
  refine ⟨_, isType_spec f ts, ?_⟩
  ((repeat ((conv => whnf); first | refine brT ?_ | refine brF ?_)); conv => whnf)
  (refine ⟨fun h2 => ?_, fun h2 => ?_⟩ <;> rw [h2])
  · rw [joinLV_no (okJ_ref (by unfold refJ; rw [h1, h2]; rfl))]
    ((repeat ((conv => whnf); first | refine brT ?_ | refine brF ?_)); conv => whnf)
    exact ⟨_, rfl, rfl, rfl, rfl, by decide, rfl, rfl, List.nodup_nil⟩
  ((repeat ((conv => whnf); first | refine brT ?_ | refine brF ?_)); conv => whnf)
  (refine ⟨fun h3 => ?_, fun h3 => ?_⟩ <;> rw [h3])
  · ((repeat ((conv => whnf); first | refine brT ?_ | refine brF ?_)); conv => whnf)
    refine ⟨_, l3Last_spec e ss, ?_⟩
    ((repeat ((conv => whnf); first | refine brT ?_ | refine brF ?_)); conv => whnf)
    (refine ⟨fun h4 => ?_, fun h4 => ?_⟩ <;> rw [h4])
    · ((repeat ((conv => whnf); first | refine brT ?_ | refine brF ?_)); conv => whnf)
      refine ⟨_, l3Last_spec e ss, ?_⟩
      ((repeat ((conv => whnf); first | refine brT ?_ | refine brF ?_)); conv => whnf)
      (refine ⟨fun h5 => ?_, fun h5 => ?_⟩ <;> rw [h5])
      · rw [joinLV_no (okJ_ref (by unfold refJ; rw [h1, h2, h3, h4, h5]; rfl))]
        ((repeat ((conv => whnf); first | refine brT ?_ | refine brF ?_)); conv => whnf)
        exact ⟨_, rfl, rfl, rfl, rfl, by decide, rfl, rfl, List.nodup_nil⟩
      · have hr : refJ e ss f ts = false := by unfold refJ; rw [h1, h2, h3, h4, h5]; rfl
        ((repeat ((conv => whnf); first | refine brT ?_ | refine brF ?_)); conv => whnf)
        (refine ⟨fun g1 => ?_, fun g1 => ?_⟩ <;> rw [g1])
        · ((repeat ((conv => whnf); first | refine brT ?_ | refine brF ?_)); conv => whnf)
          intro hp
          rw [List.length_map]
          ((repeat ((conv => whnf); first | refine brT ?_ | refine brF ?_)); conv => whnf)
          (refine ⟨fun g2 => ?_, fun g2 => ?_⟩ <;> rw [g2])
          · ((repeat ((conv => whnf); first | refine brT ?_ | refine brF ?_)); conv => whnf)
            have hE : egoJ e ss f = f := by unfold egoJ; rw [g1, g2]
            refine ⟨prSzJ ss, b1, b2, ?_⟩
            ((repeat ((conv => whnf); first | refine brT ?_ | refine brF ?_)); conv => whnf)
            refine ⟨prSzJ ts, rfl, b3, b4, ?_⟩
            rw [← List.map_append]
            ((repeat ((conv => whnf); first | refine brT ?_ | refine brF ?_)); conv => whnf)
            refine ⟨rfl, ?_⟩
            ((repeat ((conv => whnf); first | refine brT ?_ | refine brF ?_)); conv => whnf)
            refine ⟨_, isType_spec f (ss ++ ts), ?_⟩
            ((repeat ((conv => whnf); first | refine brT ?_ | refine brF ?_)); conv => whnf)
            (refine ⟨fun g5 => ?_, fun g5 => ?_⟩ <;> rw [g5])
            · rw [joinLV_no (by unfold okJ; rw [hE]; rw [notB_t] at g5; rw [g5]; simp)]
              ((repeat ((conv => whnf); first | refine brT ?_ | refine brF ?_)); conv => whnf)
              exact ⟨_, rfl, rfl, rfl, rfl, by decide, rfl, rfl, List.nodup_nil⟩
            · rw [joinLV_yes (by unfold okJ; rw [hr, hE]; rw [notB_f] at g5; rw [g5]; simp [notB]), hE]
              ((repeat ((conv => whnf); first | refine brT ?_ | refine brF ?_)); conv => whnf)
              exact ⟨_, rfl, rfl, rfl, rfl, rfl, rfl, rfl, rfl, rfl, by simp [exsW]⟩
          · ((repeat ((conv => whnf); first | refine brT ?_ | refine brF ?_)); conv => whnf)
            have hE : egoJ e ss f = e := by unfold egoJ; rw [g1, g2]
            refine ⟨prSzJ ss, b1, b2, ?_⟩
            ((repeat ((conv => whnf); first | refine brT ?_ | refine brF ?_)); conv => whnf)
            refine ⟨prSzJ ts, rfl, b3, b4, ?_⟩
            rw [← List.map_append]
            ((repeat ((conv => whnf); first | refine brT ?_ | refine brF ?_)); conv => whnf)
            refine ⟨rfl, ?_⟩
            ((repeat ((conv => whnf); first | refine brT ?_ | refine brF ?_)); conv => whnf)
            refine ⟨_, isType_spec e (ss ++ ts), ?_⟩
            ((repeat ((conv => whnf); first | refine brT ?_ | refine brF ?_)); conv => whnf)
            (refine ⟨fun g5 => ?_, fun g5 => ?_⟩ <;> rw [g5])
            · rw [joinLV_no (by unfold okJ; rw [hE]; rw [notB_t] at g5; rw [g5]; simp)]
              ((repeat ((conv => whnf); first | refine brT ?_ | refine brF ?_)); conv => whnf)
              exact ⟨_, rfl, rfl, rfl, rfl, by decide, rfl, rfl, List.nodup_nil⟩
            · rw [joinLV_yes (by unfold okJ; rw [hr, hE]; rw [notB_f] at g5; rw [g5]; simp [notB]), hE]
              ((repeat ((conv => whnf); first | refine brT ?_ | refine brF ?_)); conv => whnf)
              exact ⟨_, rfl, rfl, rfl, rfl, rfl, rfl, rfl, rfl, rfl, by simp [exsW]⟩
        · have hE : egoJ e ss f = e := by unfold egoJ; rw [g1]
          ((repeat ((conv => whnf); first | refine brT ?_ | refine brF ?_)); conv => whnf)
          refine ⟨prSzJ ss, b1, b2, ?_⟩
          ((repeat ((conv => whnf); first | refine brT ?_ | refine brF ?_)); conv => whnf)
          refine ⟨prSzJ ts, rfl, b3, b4, ?_⟩
          rw [← List.map_append]
          ((repeat ((conv => whnf); first | refine brT ?_ | refine brF ?_)); conv => whnf)
          refine ⟨rfl, ?_⟩
          ((repeat ((conv => whnf); first | refine brT ?_ | refine brF ?_)); conv => whnf)
          refine ⟨_, isType_spec e (ss ++ ts), ?_⟩
          ((repeat ((conv => whnf); first | refine brT ?_ | refine brF ?_)); conv => whnf)
          (refine ⟨fun g5 => ?_, fun g5 => ?_⟩ <;> rw [g5])
          · rw [joinLV_no (by unfold okJ; rw [hE]; rw [notB_t] at g5; rw [g5]; simp)]
            ((repeat ((conv => whnf); first | refine brT ?_ | refine brF ?_)); conv => whnf)
            exact ⟨_, rfl, rfl, rfl, rfl, by decide, rfl, rfl, List.nodup_nil⟩
          · rw [joinLV_yes (by unfold okJ; rw [hr, hE]; rw [notB_f] at g5; rw [g5]; simp [notB]), hE]
            ((repeat ((conv => whnf); first | refine brT ?_ | refine brF ?_)); conv => whnf)
            exact ⟨_, rfl, rfl, rfl, rfl, rfl, rfl, rfl, rfl, rfl, by simp [exsW]⟩
    · have hr : refJ e ss f ts = false := by unfold refJ; rw [h1, h2, h3, h4]; rfl
      ((repeat ((conv => whnf); first | refine brT ?_ | refine brF ?_)); conv => whnf)
      (refine ⟨fun g1 => ?_, fun g1 => ?_⟩ <;> rw [g1])
      · ((repeat ((conv => whnf); first | refine brT ?_ | refine brF ?_)); conv => whnf)
        intro hp
        rw [List.length_map]
        ((repeat ((conv => whnf); first | refine brT ?_ | refine brF ?_)); conv => whnf)
        (refine ⟨fun g2 => ?_, fun g2 => ?_⟩ <;> rw [g2])
        · ((repeat ((conv => whnf); first | refine brT ?_ | refine brF ?_)); conv => whnf)
          have hE : egoJ e ss f = f := by unfold egoJ; rw [g1, g2]
          refine ⟨prSzJ ss, b1, b2, ?_⟩
          ((repeat ((conv => whnf); first | refine brT ?_ | refine brF ?_)); conv => whnf)
          refine ⟨prSzJ ts, rfl, b3, b4, ?_⟩
          rw [← List.map_append]
          ((repeat ((conv => whnf); first | refine brT ?_ | refine brF ?_)); conv => whnf)
          refine ⟨rfl, ?_⟩
          ((repeat ((conv => whnf); first | refine brT ?_ | refine brF ?_)); conv => whnf)
          refine ⟨_, isType_spec f (ss ++ ts), ?_⟩
          ((repeat ((conv => whnf); first | refine brT ?_ | refine brF ?_)); conv => whnf)
          (refine ⟨fun g5 => ?_, fun g5 => ?_⟩ <;> rw [g5])
          · rw [joinLV_no (by unfold okJ; rw [hE]; rw [notB_t] at g5; rw [g5]; simp)]
            ((repeat ((conv => whnf); first | refine brT ?_ | refine brF ?_)); conv => whnf)
            exact ⟨_, rfl, rfl, rfl, rfl, by decide, rfl, rfl, List.nodup_nil⟩
          · rw [joinLV_yes (by unfold okJ; rw [hr, hE]; rw [notB_f] at g5; rw [g5]; simp [notB]), hE]
            ((repeat ((conv => whnf); first | refine brT ?_ | refine brF ?_)); conv => whnf)
            exact ⟨_, rfl, rfl, rfl, rfl, rfl, rfl, rfl, rfl, rfl, by simp [exsW]⟩
        · ((repeat ((conv => whnf); first | refine brT ?_ | refine brF ?_)); conv => whnf)
          have hE : egoJ e ss f = e := by unfold egoJ; rw [g1, g2]
          refine ⟨prSzJ ss, b1, b2, ?_⟩
          ((repeat ((conv => whnf); first | refine brT ?_ | refine brF ?_)); conv => whnf)
          refine ⟨prSzJ ts, rfl, b3, b4, ?_⟩
          rw [← List.map_append]
          ((repeat ((conv => whnf); first | refine brT ?_ | refine brF ?_)); conv => whnf)
          refine ⟨rfl, ?_⟩
          ((repeat ((conv => whnf); first | refine brT ?_ | refine brF ?_)); conv => whnf)
          refine ⟨_, isType_spec e (ss ++ ts), ?_⟩
          ((repeat ((conv => whnf); first | refine brT ?_ | refine brF ?_)); conv => whnf)
          (refine ⟨fun g5 => ?_, fun g5 => ?_⟩ <;> rw [g5])
          · rw [joinLV_no (by unfold okJ; rw [hE]; rw [notB_t] at g5; rw [g5]; simp)]
            ((repeat ((conv => whnf); first | refine brT ?_ | refine brF ?_)); conv => whnf)
            exact ⟨_, rfl, rfl, rfl, rfl, by decide, rfl, rfl, List.nodup_nil⟩
          · rw [joinLV_yes (by unfold okJ; rw [hr, hE]; rw [notB_f] at g5; rw [g5]; simp [notB]), hE]
            ((repeat ((conv => whnf); first | refine brT ?_ | refine brF ?_)); conv => whnf)
            exact ⟨_, rfl, rfl, rfl, rfl, rfl, rfl, rfl, rfl, rfl, by simp [exsW]⟩
      · have hE : egoJ e ss f = e := by unfold egoJ; rw [g1]
        ((repeat ((conv => whnf); first | refine brT ?_ | refine brF ?_)); conv => whnf)
        refine ⟨prSzJ ss, b1, b2, ?_⟩
        ((repeat ((conv => whnf); first | refine brT ?_ | refine brF ?_)); conv => whnf)
        refine ⟨prSzJ ts, rfl, b3, b4, ?_⟩
        rw [← List.map_append]
        ((repeat ((conv => whnf); first | refine brT ?_ | refine brF ?_)); conv => whnf)
        refine ⟨rfl, ?_⟩
        ((repeat ((conv => whnf); first | refine brT ?_ | refine brF ?_)); conv => whnf)
        refine ⟨_, isType_spec e (ss ++ ts), ?_⟩
        ((repeat ((conv => whnf); first | refine brT ?_ | refine brF ?_)); conv => whnf)
        (refine ⟨fun g5 => ?_, fun g5 => ?_⟩ <;> rw [g5])
        · rw [joinLV_no (by unfold okJ; rw [hE]; rw [notB_t] at g5; rw [g5]; simp)]
          ((repeat ((conv => whnf); first | refine brT ?_ | refine brF ?_)); conv => whnf)
          exact ⟨_, rfl, rfl, rfl, rfl, by decide, rfl, rfl, List.nodup_nil⟩
        · rw [joinLV_yes (by unfold okJ; rw [hr, hE]; rw [notB_f] at g5; rw [g5]; simp [notB]), hE]
          ((repeat ((conv => whnf); first | refine brT ?_ | refine brF ?_)); conv => whnf)
          exact ⟨_, rfl, rfl, rfl, rfl, rfl, rfl, rfl, rfl, rfl, by simp [exsW]⟩
  · have hr : refJ e ss f ts = false := by unfold refJ; rw [h1, h2, h3]; rfl
    ((repeat ((conv => whnf); first | refine brT ?_ | refine brF ?_)); conv => whnf)
    (refine ⟨fun g1 => ?_, fun g1 => ?_⟩ <;> rw [g1])
    · ((repeat ((conv => whnf); first | refine brT ?_ | refine brF ?_)); conv => whnf)
      intro hp
      rw [List.length_map]
      ((repeat ((conv => whnf); first | refine brT ?_ | refine brF ?_)); conv => whnf)
      (refine ⟨fun g2 => ?_, fun g2 => ?_⟩ <;> rw [g2])
      · ((repeat ((conv => whnf); first | refine brT ?_ | refine brF ?_)); conv => whnf)
        have hE : egoJ e ss f = f := by unfold egoJ; rw [g1, g2]
        refine ⟨prSzJ ss, b1, b2, ?_⟩
        ((repeat ((conv => whnf); first | refine brT ?_ | refine brF ?_)); conv => whnf)
        refine ⟨prSzJ ts, rfl, b3, b4, ?_⟩
        rw [← List.map_append]
        ((repeat ((conv => whnf); first | refine brT ?_ | refine brF ?_)); conv => whnf)
        refine ⟨rfl, ?_⟩
        ((repeat ((conv => whnf); first | refine brT ?_ | refine brF ?_)); conv => whnf)
        refine ⟨_, isType_spec f (ss ++ ts), ?_⟩
        ((repeat ((conv => whnf); first | refine brT ?_ | refine brF ?_)); conv => whnf)
        (refine ⟨fun g5 => ?_, fun g5 => ?_⟩ <;> rw [g5])
        · rw [joinLV_no (by unfold okJ; rw [hE]; rw [notB_t] at g5; rw [g5]; simp)]
          ((repeat ((conv => whnf); first | refine brT ?_ | refine brF ?_)); conv => whnf)
          exact ⟨_, rfl, rfl, rfl, rfl, by decide, rfl, rfl, List.nodup_nil⟩
        · rw [joinLV_yes (by unfold okJ; rw [hr, hE]; rw [notB_f] at g5; rw [g5]; simp [notB]), hE]
          ((repeat ((conv => whnf); first | refine brT ?_ | refine brF ?_)); conv => whnf)
          exact ⟨_, rfl, rfl, rfl, rfl, rfl, rfl, rfl, rfl, rfl, by simp [exsW]⟩
      · ((repeat ((conv => whnf); first | refine brT ?_ | refine brF ?_)); conv => whnf)
        have hE : egoJ e ss f = e := by unfold egoJ; rw [g1, g2]
        refine ⟨prSzJ ss, b1, b2, ?_⟩
        ((repeat ((conv => whnf); first | refine brT ?_ | refine brF ?_)); conv => whnf)
        refine ⟨prSzJ ts, rfl, b3, b4, ?_⟩
        rw [← List.map_append]
        ((repeat ((conv => whnf); first | refine brT ?_ | refine brF ?_)); conv => whnf)
        refine ⟨rfl, ?_⟩
        ((repeat ((conv => whnf); first | refine brT ?_ | refine brF ?_)); conv => whnf)
        refine ⟨_, isType_spec e (ss ++ ts), ?_⟩
        ((repeat ((conv => whnf); first | refine brT ?_ | refine brF ?_)); conv => whnf)
        (refine ⟨fun g5 => ?_, fun g5 => ?_⟩ <;> rw [g5])
        · rw [joinLV_no (by unfold okJ; rw [hE]; rw [notB_t] at g5; rw [g5]; simp)]
          ((repeat ((conv => whnf); first | refine brT ?_ | refine brF ?_)); conv => whnf)
          exact ⟨_, rfl, rfl, rfl, rfl, by decide, rfl, rfl, List.nodup_nil⟩
        · rw [joinLV_yes (by unfold okJ; rw [hr, hE]; rw [notB_f] at g5; rw [g5]; simp [notB]), hE]
          ((repeat ((conv => whnf); first | refine brT ?_ | refine brF ?_)); conv => whnf)
          exact ⟨_, rfl, rfl, rfl, rfl, rfl, rfl, rfl, rfl, rfl, by simp [exsW]⟩
    · have hE : egoJ e ss f = e := by unfold egoJ; rw [g1]
      ((repeat ((conv => whnf); first | refine brT ?_ | refine brF ?_)); conv => whnf)
      refine ⟨prSzJ ss, b1, b2, ?_⟩
      ((repeat ((conv => whnf); first | refine brT ?_ | refine brF ?_)); conv => whnf)
      refine ⟨prSzJ ts, rfl, b3, b4, ?_⟩
      rw [← List.map_append]
      ((repeat ((conv => whnf); first | refine brT ?_ | refine brF ?_)); conv => whnf)
      refine ⟨rfl, ?_⟩
      ((repeat ((conv => whnf); first | refine brT ?_ | refine brF ?_)); conv => whnf)
      refine ⟨_, isType_spec e (ss ++ ts), ?_⟩
      ((repeat ((conv => whnf); first | refine brT ?_ | refine brF ?_)); conv => whnf)
      (refine ⟨fun g5 => ?_, fun g5 => ?_⟩ <;> rw [g5])
      · rw [joinLV_no (by unfold okJ; rw [hE]; rw [notB_t] at g5; rw [g5]; simp)]
        ((repeat ((conv => whnf); first | refine brT ?_ | refine brF ?_)); conv => whnf)
        exact ⟨_, rfl, rfl, rfl, rfl, by decide, rfl, rfl, List.nodup_nil⟩
      · rw [joinLV_yes (by unfold okJ; rw [hr, hE]; rw [notB_f] at g5; rw [g5]; simp [notB]), hE]
        ((repeat ((conv => whnf); first | refine brT ?_ | refine brF ?_)); conv => whnf)
        exact ⟨_, rfl, rfl, rfl, rfl, rfl, rfl, rfl, rfl, rfl, by simp [exsW]⟩
end Go.Proofs.Ytfoecpjebbgegaa

namespace Go.Proofs.Ytfoecpjebbgegaa
open Go.Lg
set_option maxHeartbeats 1600000
set_option maxRecDepth 10000
set_option linter.unusedVariables false
set_option linter.unusedSimpArgs false

theorem concat2_h (ss ts : List Pr) (h : (ss ++ ts).length * 16 ≤ 140737488355328) : HSpec env.P 108 [.sl [.sl (ss.map Pr.lv), .sl (ts.map Pr.lv)]] [] (.hs 0 ((ss ++ ts).map Pr.lv).length) [.arr 84 2 ((ss ++ ts).map Pr.lv)] := by
  have e : [ss, ts].flatten = ss ++ ts := by simp
  have := concat_h [ss, ts] (by rw [e]; exact h)
  rw [e] at this
  exact this
theorem sxOf_pos (k : Int) : sxOf k ≠ 0 := by unfold sxOf; split <;> decide
theorem egoJ_last (e : Int) (ss : List Pr) (f : Int) : egoJ e ss f = match eqI (lastT e ss) 0 with | true => f | false => e := by
  unfold egoJ
  by_cases h : 0 < ss.length
  · have h1 : eqI (ss.length : Int) 0 = false := by rw [eqI_f]; omega
    have h2 : eqI (lastT e ss) 0 = false := by rw [lastT_at h, eqI_f]; exact sxOf_pos _
    rw [h1, h2]
    cases eqI e 0 <;> rfl
  · have : ss = [] := List.eq_nil_of_length_eq_zero (by omega)
    subst this
    have h1 : eqI (([] : List Pr).length : Int) 0 = true := by rw [eqI_t]; rfl
    have h2 : lastT e [] = e := rfl
    rw [h1, h2]
    all_goals (cases eqI e 0 <;> rfl)
def joinHS (e : Int) (ss : List Pr) (f : Int) (ts : List Pr) : LV := .tup [typHS (joinE e ss f ts) 0 ((joinL e ss f ts).map Pr.lv).length, .bool (okJ e ss f ts)]
theorem joinHS_no {e : Int} {ss : List Pr} {f : Int} {ts : List Pr} (h : okJ e ss f ts = false) : joinHS e ss f ts = .tup [typHS 0 0 0, .bool false] ∧ joinL e ss f ts = [] := by
  have e1 : joinL e ss f ts = [] := by unfold joinL; rw [h]
  refine ⟨?_, e1⟩
  unfold joinHS joinE; rw [h, e1]; rfl
theorem joinHS_yes {e : Int} {ss : List Pr} {f : Int} {ts : List Pr} (h : okJ e ss f ts = true) : joinHS e ss f ts = .tup [typHS (egoJ e ss f) 0 ((ss ++ ts).map Pr.lv).length, .bool true] ∧ joinL e ss f ts = ss ++ ts := by
  have e1 : joinL e ss f ts = ss ++ ts := by unfold joinL; rw [h]
  refine ⟨?_, e1⟩
  unfold joinHS joinE; rw [h, e1]
theorem join_impl (e : Int) (ss : List Pr) (f : Int) (ts : List Pr) (hl : ss.length + ts.length ≤ 1048576) : HSpec env.P 51 [typLV e ss, typLV f ts] [] (joinHS e ss f ts) [.arr 84 2 ((joinL e ss f ts).map Pr.lv)] := by
  refine HSpec_of_code (E := env.x [108] 0) env_ok.x (fn := Try.f51) Try.func51 rfl Try.call51 _ _ _ _ ?_
  have b5 : (ss ++ ts).length * 16 ≤ 140737488355328 := by rw [List.length_append]; omega
  ((repeat ((conv => whnf); first | refine brT ?_ | refine brF ?_)); conv => whnf)
  refine ⟨_, isType_impl e ss, ?_⟩
  ((repeat ((conv => whnf); first | refine brT ?_ | refine brF ?_)); conv => whnf)
  (refine ⟨fun h1 => ?_, fun h1 => ?_⟩ <;> rw [h1])
  · rw [(joinHS_no (okJ_ref (by unfold refJ; rw [h1]; rfl))).1, (joinHS_no (okJ_ref (by unfold refJ; rw [h1]; rfl))).2]
    ((repeat ((conv => whnf); first | refine brT ?_ | refine brF ?_)); conv => whnf)
    exact ⟨[typHS 0 0 0, .bool false], rfl, rfl, .nl [.tmp 0 [1] false 84 2] [.old 3] ⟨⟨rfl, rfl, rfl, rfl, trivial⟩, ⟨rfl, rfl, trivial⟩, rfl⟩⟩
  ((repeat ((conv => whnf); first | refine brT ?_ | refine brF ?_)); conv => whnf)
  refine ⟨_, isType_impl f ts, ?_⟩
  ((repeat ((conv => whnf); first | refine brT ?_ | refine brF ?_)); conv => whnf)
  (refine ⟨fun h2 => ?_, fun h2 => ?_⟩ <;> rw [h2])
  · rw [(joinHS_no (okJ_ref (by unfold refJ; rw [h1, h2]; rfl))).1, (joinHS_no (okJ_ref (by unfold refJ; rw [h1, h2]; rfl))).2]
    ((repeat ((conv => whnf); first | refine brT ?_ | refine brF ?_)); conv => whnf)
    exact ⟨[typHS 0 0 0, .bool false], rfl, rfl, .nl [.tmp 0 [1] false 84 2] [.old 3] ⟨⟨rfl, rfl, rfl, rfl, trivial⟩, ⟨rfl, rfl, trivial⟩, rfl⟩⟩
  ((repeat ((conv => whnf); first | refine brT ?_ | refine brF ?_)); conv => whnf)
  refine ⟨_, sexOfType_impl e ss, ?_⟩
  have hs : sexR e ss = lastT e ss := by unfold sexR; rw [notB_f] at h1; rw [h1]
  rw [hs]
  ((repeat ((conv => whnf); first | refine brT ?_ | refine brF ?_)); conv => whnf)
  (refine ⟨fun h4 => ?_, fun h4 => ?_⟩ <;> rw [h4])
  · ((repeat ((conv => whnf); first | refine brT ?_ | refine brF ?_)); conv => whnf)
    (refine ⟨fun h3 => ?_, fun h3 => ?_⟩ <;> rw [h3])
    · ((repeat ((conv => whnf); first | refine brT ?_ | refine brF ?_)); conv => whnf)
      (refine ⟨fun h5 => ?_, fun h5 => ?_⟩ <;> rw [h5])
      · have h5' : notB (eqI f (lastT e ss)) = true := by rw [← h5]; simp [notB, eqI_d, eq_comm]
        rw [(joinHS_no (okJ_ref (by unfold refJ; rw [h1, h2, h3, h4, h5']; rfl))).1, (joinHS_no (okJ_ref (by unfold refJ; rw [h1, h2, h3, h4, h5']; rfl))).2]
        ((repeat ((conv => whnf); first | refine brT ?_ | refine brF ?_)); conv => whnf)
        exact ⟨[typHS 0 0 0, .bool false], rfl, rfl, .nl [.tmp 0 [1] false 84 2] [.old 3] ⟨⟨rfl, rfl, rfl, rfl, trivial⟩, ⟨rfl, rfl, trivial⟩, rfl⟩⟩
      · have h5' : notB (eqI f (lastT e ss)) = false := by rw [← h5]; simp [notB, eqI_d, eq_comm]
        have hr : refJ e ss f ts = false := by unfold refJ; rw [h1, h2, h3, h4, h5']; rfl
        ((repeat ((conv => whnf); first | refine brT ?_ | refine brF ?_)); conv => whnf)
        refine ⟨false, 0, 0, 0, [0, 1, 2, 3, 4, 5], (.alt 6 (.alt 7 (.alt 8 (.one 9 (.one 10 .done)) (.one 9 (.one 8 (.one 10 .done)))) (.one 9 (.one 7 (.one 8 (.one 10 .done))))) (.one 9 (.one 6 (.one 7 (.one 8 (.one 10 .done)))))), by kernel_rfl, ?_⟩
        ((repeat ((conv => whnf); first | refine brT ?_ | refine brF ?_)); conv => whnf)
        apply Exists.intro
        apply Exists.intro
        refine And.intro ?_ ?_
        · refine And.intro ?_ ?_
          · ((repeat ((conv => whnf); first | refine brT ?_ | refine brF ?_)); conv => whnf)
            refine And.intro ?_ ?_
            · ((repeat ((conv => whnf); first | refine brT ?_ | refine brF ?_)); conv => whnf)
              refine ⟨_, _, _, _, concat2_h ss ts b5, rfl, rfl, rfl, rfl, ⟨rfl, flats_prs _, trivial⟩, ?_⟩
              ((repeat ((conv => whnf); first | refine brT ?_ | refine brF ?_)); conv => whnf)
              refine And.intro ?_ ?_
              · ((repeat ((conv => whnf); first | refine brT ?_ | refine brF ?_)); conv => whnf)
                refine Weak.idn ?_ ?_ rfl
                · ((repeat ((conv => whnf); refine ⟨rfl, ?_⟩)); trivial)
                · exact ⟨rfl, rfl, rfl, rfl, rfl, rfl, trivial⟩
              · ((repeat ((conv => whnf); first | refine brT ?_ | refine brF ?_)); conv => whnf)
                refine .inr ⟨[.old 0, .old 1, .old 2, .old 3, .old 4, .old 5], ?_, ⟨rfl, rfl, rfl, rfl, rfl, rfl, rfl, rfl, rfl, rfl, rfl, rfl, trivial⟩, rfl⟩
                ((repeat ((conv => whnf); refine ⟨rfl, rfl, ?_⟩)); trivial)
            · ((repeat ((conv => whnf); first | refine brT ?_ | refine brF ?_)); conv => whnf)
              refine ⟨_, _, _, _, concat2_h ss ts b5, rfl, rfl, rfl, rfl, ⟨rfl, flats_prs _, trivial⟩, ?_⟩
              ((repeat ((conv => whnf); first | refine brT ?_ | refine brF ?_)); conv => whnf)
              refine .inr ⟨[.old 0, .old 1, .old 2, .old 3, .old 5, .old 4], ?_, ⟨rfl, rfl, rfl, rfl, rfl, rfl, rfl, rfl, rfl, rfl, rfl, rfl, trivial⟩, rfl⟩
              ((repeat ((conv => whnf); refine ⟨rfl, rfl, ?_⟩)); trivial)
          · ((repeat ((conv => whnf); first | refine brT ?_ | refine brF ?_)); conv => whnf)
            refine ⟨_, _, _, _, concat2_h ss ts b5, rfl, rfl, rfl, rfl, ⟨rfl, flats_prs _, trivial⟩, ?_⟩
            ((repeat ((conv => whnf); first | refine brT ?_ | refine brF ?_)); conv => whnf)
            refine .inr ⟨[.old 0, .old 1, .old 2, .old 4, .old 5, .old 3], ?_, ⟨rfl, rfl, rfl, rfl, rfl, rfl, rfl, rfl, rfl, rfl, rfl, rfl, trivial⟩, rfl⟩
            ((repeat ((conv => whnf); refine ⟨rfl, rfl, ?_⟩)); trivial)
        · ((repeat ((conv => whnf); first | refine brT ?_ | refine brF ?_)); conv => whnf)
          (refine ⟨fun g1 => ?_, fun g1 => ?_⟩ <;> rw [g1])
          · ((repeat ((conv => whnf); first | refine brT ?_ | refine brF ?_)); conv => whnf)
            have hE : egoJ e ss f = f := by rw [egoJ_last, g1]
            refine ⟨rfl, ?_⟩
            ((repeat ((conv => whnf); first | refine brT ?_ | refine brF ?_)); conv => whnf)
            refine ⟨_, isType_impl f (ss ++ ts), ?_⟩
            ((repeat ((conv => whnf); first | refine brT ?_ | refine brF ?_)); conv => whnf)
            (refine ⟨fun g5 => ?_, fun g5 => ?_⟩ <;> rw [g5])
            · rw [(joinHS_no (by unfold okJ; rw [hE]; rw [notB_t] at g5; rw [g5]; simp)).1, (joinHS_no (by unfold okJ; rw [hE]; rw [notB_t] at g5; rw [g5]; simp)).2]
              ((repeat ((conv => whnf); first | refine brT ?_ | refine brF ?_)); conv => whnf)
              exact ⟨[typHS 0 0 0, .bool false], rfl, rfl, .nl [.tmp 0 [1] false 84 2] [.old 6] ⟨⟨rfl, rfl, rfl, rfl, trivial⟩, ⟨rfl, rfl, trivial⟩, rfl⟩⟩
            · rw [(joinHS_yes (by unfold okJ; rw [hr, hE]; rw [notB_f] at g5; rw [g5]; simp [notB])).1, (joinHS_yes (by unfold okJ; rw [hr, hE]; rw [notB_f] at g5; rw [g5]; simp [notB])).2, hE]
              ((repeat ((conv => whnf); first | refine brT ?_ | refine brF ?_)); conv => whnf)
              exact ⟨[typHS f 0 ((ss ++ ts).map Pr.lv).length, .bool true], rfl, rfl, .inr ⟨[.old 4], ⟨rfl, rfl, rfl, rfl, trivial⟩, ⟨rfl, rfl, trivial⟩, rfl⟩⟩
          · ((repeat ((conv => whnf); first | refine brT ?_ | refine brF ?_)); conv => whnf)
            have hE : egoJ e ss f = e := by rw [egoJ_last, g1]
            refine ⟨rfl, ?_⟩
            ((repeat ((conv => whnf); first | refine brT ?_ | refine brF ?_)); conv => whnf)
            refine ⟨_, isType_impl e (ss ++ ts), ?_⟩
            ((repeat ((conv => whnf); first | refine brT ?_ | refine brF ?_)); conv => whnf)
            (refine ⟨fun g5 => ?_, fun g5 => ?_⟩ <;> rw [g5])
            · rw [(joinHS_no (by unfold okJ; rw [hE]; rw [notB_t] at g5; rw [g5]; simp)).1, (joinHS_no (by unfold okJ; rw [hE]; rw [notB_t] at g5; rw [g5]; simp)).2]
              ((repeat ((conv => whnf); first | refine brT ?_ | refine brF ?_)); conv => whnf)
              exact ⟨[typHS 0 0 0, .bool false], rfl, rfl, .nl [.tmp 0 [1] false 84 2] [.old 6] ⟨⟨rfl, rfl, rfl, rfl, trivial⟩, ⟨rfl, rfl, trivial⟩, rfl⟩⟩
            · rw [(joinHS_yes (by unfold okJ; rw [hr, hE]; rw [notB_f] at g5; rw [g5]; simp [notB])).1, (joinHS_yes (by unfold okJ; rw [hr, hE]; rw [notB_f] at g5; rw [g5]; simp [notB])).2, hE]
              ((repeat ((conv => whnf); first | refine brT ?_ | refine brF ?_)); conv => whnf)
              exact ⟨[typHS e 0 ((ss ++ ts).map Pr.lv).length, .bool true], rfl, rfl, .inr ⟨[.old 4], ⟨rfl, rfl, rfl, rfl, trivial⟩, ⟨rfl, rfl, trivial⟩, rfl⟩⟩
    · have hr : refJ e ss f ts = false := by unfold refJ; rw [h1, h2, h3]; rfl
      ((repeat ((conv => whnf); first | refine brT ?_ | refine brF ?_)); conv => whnf)
      refine ⟨false, 0, 0, 0, [0, 1, 2, 3, 4, 5], (.alt 6 (.alt 7 (.alt 8 (.one 9 (.one 10 .done)) (.one 9 (.one 8 (.one 10 .done)))) (.one 9 (.one 7 (.one 8 (.one 10 .done))))) (.one 9 (.one 6 (.one 7 (.one 8 (.one 10 .done)))))), by kernel_rfl, ?_⟩
      ((repeat ((conv => whnf); first | refine brT ?_ | refine brF ?_)); conv => whnf)
      apply Exists.intro
      apply Exists.intro
      refine And.intro ?_ ?_
      · refine And.intro ?_ ?_
        · ((repeat ((conv => whnf); first | refine brT ?_ | refine brF ?_)); conv => whnf)
          refine And.intro ?_ ?_
          · ((repeat ((conv => whnf); first | refine brT ?_ | refine brF ?_)); conv => whnf)
            refine ⟨_, _, _, _, concat2_h ss ts b5, rfl, rfl, rfl, rfl, ⟨rfl, flats_prs _, trivial⟩, ?_⟩
            ((repeat ((conv => whnf); first | refine brT ?_ | refine brF ?_)); conv => whnf)
            refine And.intro ?_ ?_
            · ((repeat ((conv => whnf); first | refine brT ?_ | refine brF ?_)); conv => whnf)
              refine Weak.idn ?_ ?_ rfl
              · ((repeat ((conv => whnf); refine ⟨rfl, ?_⟩)); trivial)
              · exact ⟨rfl, rfl, rfl, rfl, rfl, rfl, trivial⟩
            · ((repeat ((conv => whnf); first | refine brT ?_ | refine brF ?_)); conv => whnf)
              refine .inr ⟨[.old 0, .old 1, .old 2, .old 3, .old 4, .old 5], ?_, ⟨rfl, rfl, rfl, rfl, rfl, rfl, rfl, rfl, rfl, rfl, rfl, rfl, trivial⟩, rfl⟩
              ((repeat ((conv => whnf); refine ⟨rfl, rfl, ?_⟩)); trivial)
          · ((repeat ((conv => whnf); first | refine brT ?_ | refine brF ?_)); conv => whnf)
            refine ⟨_, _, _, _, concat2_h ss ts b5, rfl, rfl, rfl, rfl, ⟨rfl, flats_prs _, trivial⟩, ?_⟩
            ((repeat ((conv => whnf); first | refine brT ?_ | refine brF ?_)); conv => whnf)
            refine .inr ⟨[.old 0, .old 1, .old 2, .old 3, .old 5, .old 4], ?_, ⟨rfl, rfl, rfl, rfl, rfl, rfl, rfl, rfl, rfl, rfl, rfl, rfl, trivial⟩, rfl⟩
            ((repeat ((conv => whnf); refine ⟨rfl, rfl, ?_⟩)); trivial)
        · ((repeat ((conv => whnf); first | refine brT ?_ | refine brF ?_)); conv => whnf)
          refine ⟨_, _, _, _, concat2_h ss ts b5, rfl, rfl, rfl, rfl, ⟨rfl, flats_prs _, trivial⟩, ?_⟩
          ((repeat ((conv => whnf); first | refine brT ?_ | refine brF ?_)); conv => whnf)
          refine .inr ⟨[.old 0, .old 1, .old 2, .old 4, .old 5, .old 3], ?_, ⟨rfl, rfl, rfl, rfl, rfl, rfl, rfl, rfl, rfl, rfl, rfl, rfl, trivial⟩, rfl⟩
          ((repeat ((conv => whnf); refine ⟨rfl, rfl, ?_⟩)); trivial)
      · ((repeat ((conv => whnf); first | refine brT ?_ | refine brF ?_)); conv => whnf)
        (refine ⟨fun g1 => ?_, fun g1 => ?_⟩ <;> rw [g1])
        · ((repeat ((conv => whnf); first | refine brT ?_ | refine brF ?_)); conv => whnf)
          have hE : egoJ e ss f = f := by rw [egoJ_last, g1]
          refine ⟨rfl, ?_⟩
          ((repeat ((conv => whnf); first | refine brT ?_ | refine brF ?_)); conv => whnf)
          refine ⟨_, isType_impl f (ss ++ ts), ?_⟩
          ((repeat ((conv => whnf); first | refine brT ?_ | refine brF ?_)); conv => whnf)
          (refine ⟨fun g5 => ?_, fun g5 => ?_⟩ <;> rw [g5])
          · rw [(joinHS_no (by unfold okJ; rw [hE]; rw [notB_t] at g5; rw [g5]; simp)).1, (joinHS_no (by unfold okJ; rw [hE]; rw [notB_t] at g5; rw [g5]; simp)).2]
            ((repeat ((conv => whnf); first | refine brT ?_ | refine brF ?_)); conv => whnf)
            exact ⟨[typHS 0 0 0, .bool false], rfl, rfl, .nl [.tmp 0 [1] false 84 2] [.old 6] ⟨⟨rfl, rfl, rfl, rfl, trivial⟩, ⟨rfl, rfl, trivial⟩, rfl⟩⟩
          · rw [(joinHS_yes (by unfold okJ; rw [hr, hE]; rw [notB_f] at g5; rw [g5]; simp [notB])).1, (joinHS_yes (by unfold okJ; rw [hr, hE]; rw [notB_f] at g5; rw [g5]; simp [notB])).2, hE]
            ((repeat ((conv => whnf); first | refine brT ?_ | refine brF ?_)); conv => whnf)
            exact ⟨[typHS f 0 ((ss ++ ts).map Pr.lv).length, .bool true], rfl, rfl, .inr ⟨[.old 4], ⟨rfl, rfl, rfl, rfl, trivial⟩, ⟨rfl, rfl, trivial⟩, rfl⟩⟩
        · ((repeat ((conv => whnf); first | refine brT ?_ | refine brF ?_)); conv => whnf)
          have hE : egoJ e ss f = e := by rw [egoJ_last, g1]
          refine ⟨rfl, ?_⟩
          ((repeat ((conv => whnf); first | refine brT ?_ | refine brF ?_)); conv => whnf)
          refine ⟨_, isType_impl e (ss ++ ts), ?_⟩
          ((repeat ((conv => whnf); first | refine brT ?_ | refine brF ?_)); conv => whnf)
          (refine ⟨fun g5 => ?_, fun g5 => ?_⟩ <;> rw [g5])
          · rw [(joinHS_no (by unfold okJ; rw [hE]; rw [notB_t] at g5; rw [g5]; simp)).1, (joinHS_no (by unfold okJ; rw [hE]; rw [notB_t] at g5; rw [g5]; simp)).2]
            ((repeat ((conv => whnf); first | refine brT ?_ | refine brF ?_)); conv => whnf)
            exact ⟨[typHS 0 0 0, .bool false], rfl, rfl, .nl [.tmp 0 [1] false 84 2] [.old 6] ⟨⟨rfl, rfl, rfl, rfl, trivial⟩, ⟨rfl, rfl, trivial⟩, rfl⟩⟩
          · rw [(joinHS_yes (by unfold okJ; rw [hr, hE]; rw [notB_f] at g5; rw [g5]; simp [notB])).1, (joinHS_yes (by unfold okJ; rw [hr, hE]; rw [notB_f] at g5; rw [g5]; simp [notB])).2, hE]
            ((repeat ((conv => whnf); first | refine brT ?_ | refine brF ?_)); conv => whnf)
            exact ⟨[typHS e 0 ((ss ++ ts).map Pr.lv).length, .bool true], rfl, rfl, .inr ⟨[.old 4], ⟨rfl, rfl, rfl, rfl, trivial⟩, ⟨rfl, rfl, trivial⟩, rfl⟩⟩
  · have hr : refJ e ss f ts = false := by unfold refJ; rw [h1, h2, h4]; simp
    ((repeat ((conv => whnf); first | refine brT ?_ | refine brF ?_)); conv => whnf)
    refine ⟨false, 0, 0, 0, [0, 1, 2, 3, 4, 5], (.alt 6 (.alt 7 (.alt 8 (.one 9 (.one 10 .done)) (.one 9 (.one 8 (.one 10 .done)))) (.one 9 (.one 7 (.one 8 (.one 10 .done))))) (.one 9 (.one 6 (.one 7 (.one 8 (.one 10 .done)))))), by kernel_rfl, ?_⟩
    ((repeat ((conv => whnf); first | refine brT ?_ | refine brF ?_)); conv => whnf)
    apply Exists.intro
    apply Exists.intro
    refine And.intro ?_ ?_
    · refine And.intro ?_ ?_
      · ((repeat ((conv => whnf); first | refine brT ?_ | refine brF ?_)); conv => whnf)
        refine And.intro ?_ ?_
        · ((repeat ((conv => whnf); first | refine brT ?_ | refine brF ?_)); conv => whnf)
          refine ⟨_, _, _, _, concat2_h ss ts b5, rfl, rfl, rfl, rfl, ⟨rfl, flats_prs _, trivial⟩, ?_⟩
          ((repeat ((conv => whnf); first | refine brT ?_ | refine brF ?_)); conv => whnf)
          refine And.intro ?_ ?_
          · ((repeat ((conv => whnf); first | refine brT ?_ | refine brF ?_)); conv => whnf)
            refine Weak.idn ?_ ?_ rfl
            · ((repeat ((conv => whnf); refine ⟨rfl, ?_⟩)); trivial)
            · exact ⟨rfl, rfl, rfl, rfl, rfl, rfl, trivial⟩
          · ((repeat ((conv => whnf); first | refine brT ?_ | refine brF ?_)); conv => whnf)
            refine .inr ⟨[.old 0, .old 1, .old 2, .old 3, .old 4, .old 5], ?_, ⟨rfl, rfl, rfl, rfl, rfl, rfl, rfl, rfl, rfl, rfl, rfl, rfl, trivial⟩, rfl⟩
            ((repeat ((conv => whnf); refine ⟨rfl, rfl, ?_⟩)); trivial)
        · ((repeat ((conv => whnf); first | refine brT ?_ | refine brF ?_)); conv => whnf)
          refine ⟨_, _, _, _, concat2_h ss ts b5, rfl, rfl, rfl, rfl, ⟨rfl, flats_prs _, trivial⟩, ?_⟩
          ((repeat ((conv => whnf); first | refine brT ?_ | refine brF ?_)); conv => whnf)
          refine .inr ⟨[.old 0, .old 1, .old 2, .old 3, .old 5, .old 4], ?_, ⟨rfl, rfl, rfl, rfl, rfl, rfl, rfl, rfl, rfl, rfl, rfl, rfl, trivial⟩, rfl⟩
          ((repeat ((conv => whnf); refine ⟨rfl, rfl, ?_⟩)); trivial)
      · ((repeat ((conv => whnf); first | refine brT ?_ | refine brF ?_)); conv => whnf)
        refine ⟨_, _, _, _, concat2_h ss ts b5, rfl, rfl, rfl, rfl, ⟨rfl, flats_prs _, trivial⟩, ?_⟩
        ((repeat ((conv => whnf); first | refine brT ?_ | refine brF ?_)); conv => whnf)
        refine .inr ⟨[.old 0, .old 1, .old 2, .old 4, .old 5, .old 3], ?_, ⟨rfl, rfl, rfl, rfl, rfl, rfl, rfl, rfl, rfl, rfl, rfl, rfl, trivial⟩, rfl⟩
        ((repeat ((conv => whnf); refine ⟨rfl, rfl, ?_⟩)); trivial)
    · ((repeat ((conv => whnf); first | refine brT ?_ | refine brF ?_)); conv => whnf)
      (refine ⟨fun g1 => ?_, fun g1 => ?_⟩ <;> rw [g1])
      · ((repeat ((conv => whnf); first | refine brT ?_ | refine brF ?_)); conv => whnf)
        have hE : egoJ e ss f = f := by rw [egoJ_last, g1]
        refine ⟨rfl, ?_⟩
        ((repeat ((conv => whnf); first | refine brT ?_ | refine brF ?_)); conv => whnf)
        refine ⟨_, isType_impl f (ss ++ ts), ?_⟩
        ((repeat ((conv => whnf); first | refine brT ?_ | refine brF ?_)); conv => whnf)
        (refine ⟨fun g5 => ?_, fun g5 => ?_⟩ <;> rw [g5])
        · rw [(joinHS_no (by unfold okJ; rw [hE]; rw [notB_t] at g5; rw [g5]; simp)).1, (joinHS_no (by unfold okJ; rw [hE]; rw [notB_t] at g5; rw [g5]; simp)).2]
          ((repeat ((conv => whnf); first | refine brT ?_ | refine brF ?_)); conv => whnf)
          exact ⟨[typHS 0 0 0, .bool false], rfl, rfl, .nl [.tmp 0 [1] false 84 2] [.old 6] ⟨⟨rfl, rfl, rfl, rfl, trivial⟩, ⟨rfl, rfl, trivial⟩, rfl⟩⟩
        · rw [(joinHS_yes (by unfold okJ; rw [hr, hE]; rw [notB_f] at g5; rw [g5]; simp [notB])).1, (joinHS_yes (by unfold okJ; rw [hr, hE]; rw [notB_f] at g5; rw [g5]; simp [notB])).2, hE]
          ((repeat ((conv => whnf); first | refine brT ?_ | refine brF ?_)); conv => whnf)
          exact ⟨[typHS f 0 ((ss ++ ts).map Pr.lv).length, .bool true], rfl, rfl, .inr ⟨[.old 4], ⟨rfl, rfl, rfl, rfl, trivial⟩, ⟨rfl, rfl, trivial⟩, rfl⟩⟩
      · ((repeat ((conv => whnf); first | refine brT ?_ | refine brF ?_)); conv => whnf)
        have hE : egoJ e ss f = e := by rw [egoJ_last, g1]
        refine ⟨rfl, ?_⟩
        ((repeat ((conv => whnf); first | refine brT ?_ | refine brF ?_)); conv => whnf)
        refine ⟨_, isType_impl e (ss ++ ts), ?_⟩
        ((repeat ((conv => whnf); first | refine brT ?_ | refine brF ?_)); conv => whnf)
        (refine ⟨fun g5 => ?_, fun g5 => ?_⟩ <;> rw [g5])
        · rw [(joinHS_no (by unfold okJ; rw [hE]; rw [notB_t] at g5; rw [g5]; simp)).1, (joinHS_no (by unfold okJ; rw [hE]; rw [notB_t] at g5; rw [g5]; simp)).2]
          ((repeat ((conv => whnf); first | refine brT ?_ | refine brF ?_)); conv => whnf)
          exact ⟨[typHS 0 0 0, .bool false], rfl, rfl, .nl [.tmp 0 [1] false 84 2] [.old 6] ⟨⟨rfl, rfl, rfl, rfl, trivial⟩, ⟨rfl, rfl, trivial⟩, rfl⟩⟩
        · rw [(joinHS_yes (by unfold okJ; rw [hr, hE]; rw [notB_f] at g5; rw [g5]; simp [notB])).1, (joinHS_yes (by unfold okJ; rw [hr, hE]; rw [notB_f] at g5; rw [g5]; simp [notB])).2, hE]
          ((repeat ((conv => whnf); first | refine brT ?_ | refine brF ?_)); conv => whnf)
          exact ⟨[typHS e 0 ((ss ++ ts).map Pr.lv).length, .bool true], rfl, rfl, .inr ⟨[.old 4], ⟨rfl, rfl, rfl, rfl, trivial⟩, ⟨rfl, rfl, trivial⟩, rfl⟩⟩
end Go.Proofs.Ytfoecpjebbgegaa

namespace Go.Proofs.Ytfoecpjebbgegaa
open Go.Lg
set_option maxHeartbeats 1600000
set_option maxRecDepth 10000
set_option linter.unusedVariables false
set_option linter.unusedSimpArgs false

def rulHS (r : Rul) (a m b n : Nat) : LV := .st [.str r.name, .int .i64 r.sex, .int .i64 r.place, .hs a m, .hs b n]
theorem toRule_h (r : Rul) (h1 : 16 * r.fr.length ≤ 281474976710656) (h2 : 16 * r.to.length ≤ 281474976710656) : HSpec env.P 22 [r.lv] [] (rulHS r 0 (r.fr.map Pr.lv).length 1 (r.to.map Pr.lv).length) [.arr 84 2 (r.fr.map Pr.lv), .arr 84 2 (r.to.map Pr.lv)] := by
  refine HSpec_of_code (E := env.x [83] 0) env_ok.x (fn := Try.f22) Try.func22 rfl Try.call22 _ _ _ _ ?_
  ((repeat ((conv => whnf); first | refine brT ?_ | refine brF ?_)); conv => whnf)
  refine ⟨[], _, _, _, _, toStepS_h r.fr h1, rfl, rfl, rfl, trivial, ?_⟩
  ((repeat ((conv => whnf); first | refine brT ?_ | refine brF ?_)); conv => whnf)
  refine ⟨[], _, _, _, _, toStepS_h r.to h2, rfl, rfl, rfl, trivial, ?_⟩
  ((repeat ((conv => whnf); first | refine brT ?_ | refine brF ?_)); conv => whnf)
  refine ⟨[rulHS r 0 (r.fr.map Pr.lv).length 1 (r.to.map Pr.lv).length], rfl, rfl, .inr ⟨[.old 3, .old 4], ?_, ?_, rfl⟩⟩
  · ((repeat ((conv => whnf); refine ⟨rfl, rfl, ?_⟩)); trivial)
  · exact ⟨rfl, rfl, rfl, rfl, trivial⟩
theorem markRule_spec (r : Rul) (m n : Nat) (hm : m = (r.fr.map Pr.lv).length) (hn : n = (r.to.map Pr.lv).length) (k : Nat) (h1 : k + 2 * r.fr.length + 2 * r.to.length ≤ 2305843009213693952) :
    HSpec env.P 37 [rulHS r 0 m 1 n, .int .i64 (k : Int)] [.arr 84 2 (r.fr.map Pr.lv), .arr 84 2 (r.to.map Pr.lv)] (.int .i64 ((k + 2 * r.fr.length + 2 * r.to.length : Nat) : Int))
      [.arr 84 2 ((markPrs k r.fr.length).map Pr.lv), .arr 84 2 ((markPrs (k + 2 * r.fr.length) r.to.length).map Pr.lv)] := by
  refine HSpec_of_code (E := env.x [97] 2) env_ok.x (fn := Try.f37) Try.func37 rfl Try.call37 _ _ _ _ ?_
  ((repeat ((conv => whnf); first | refine brT ?_ | refine brF ?_)); conv => whnf)
  refine ⟨[0], _, _, _, _, markStepS_spec r.fr m hm k (by omega), rfl, rfl, rfl, trivial, ?_⟩
  ((repeat ((conv => whnf); first | refine brT ?_ | refine brF ?_)); conv => whnf)
  refine ⟨[1], _, _, _, _, markStepS_spec r.to n hn (k + 2 * r.fr.length) (by omega), rfl, rfl, rfl, trivial, ?_⟩
  ((repeat ((conv => whnf); first | refine brT ?_ | refine brF ?_)); conv => whnf)
  exact ⟨[.int .i64 ((k + 2 * r.fr.length + 2 * r.to.length : Nat) : Int)], rfl, rfl, .inl ⟨⟨rfl, trivial⟩, ⟨rfl, rfl, trivial⟩, rfl, rfl⟩⟩
def replS (r : Rul) (ss : List Pr) (n : Nat) : List Pr := ss.take n ++ (r.to ++ ss.drop (n + r.fr.length))
theorem drop_take_all {α : Type} (xs : List α) (m : Nat) : (xs.drop m).take (xs.length - m) = xs.drop m := List.take_of_length_le (by simp)
theorem concat3_h (xs ys zs : List Pr) (h : (xs ++ (ys ++ zs)).length * 16 ≤ 140737488355328) : HSpec env.P 108 [.sl [.sl (xs.map Pr.lv), .sl (ys.map Pr.lv), .sl (zs.map Pr.lv)]] [] (.hs 0 ((xs ++ (ys ++ zs)).map Pr.lv).length) [.arr 84 2 ((xs ++ (ys ++ zs)).map Pr.lv)] := by
  have e : [xs, ys, zs].flatten = xs ++ (ys ++ zs) := by simp
  have := concat_h [xs, ys, zs] (by rw [e]; exact h)
  rw [e] at this
  exact this
theorem replaced_h (r : Rul) (e : Int) (ss : List Pr) (n : Nat) (hn : n + r.fr.length ≤ ss.length) (hl : ss.length ≤ Go.maxLen) (hb : (replS r ss n).length * 16 ≤ 140737488355328) :
    HSpec env.P 96 [r.lv, typLV e ss, .int .i64 (n : Int)] [] (typHS e 0 ((replS r ss n).map Pr.lv).length) [.arr 84 2 ((replS r ss n).map Pr.lv)] := by
  refine HSpec_of_code (E := env.x [108] 0) env_ok.x (fn := Try.f96) Try.func96 rfl Try.call96 _ _ _ _ ?_
  have hl' := hl
  unfold Go.maxLen at hl
  have sz : ∀ x ∈ ss.map Pr.lv, x.size = 2 := fun x hx => by obtain ⟨p, _, rfl⟩ := List.mem_map.1 hx; rfl
  ((repeat ((conv => whnf); first | refine brT ?_ | refine brF ?_)); conv => whnf)
  refine ⟨false, 0, 0, 1, [0, 1, 2, 3, 4, 5, 6, 7, 8, 9, 10, 11, 12, 13, 14, 15], (.one 16 (.one 17 (.one 18 (.one 19 .done)))), by kernel_rfl, by kernel_rfl, ?_⟩
  ((repeat ((conv => whnf); first | refine brT ?_ | refine brF ?_)); conv => whnf)
  refine ⟨0, n, rfl, rfl, Nat.zero_le _, by simp; omega, sz, ?_⟩
  ((repeat ((conv => whnf); first | refine brT ?_ | refine brF ?_)); conv => whnf)
  intro hf
  have elf : (r.fr.map Pr.lv).length = r.fr.length := List.length_map ..
  ((repeat ((conv => whnf); first | refine brT ?_ | refine brF ?_)); conv => whnf)
  rw [elf]
  rw [show IntKind.i64.wrap ((n : Int) + (r.fr.length : Int)) = ((n + r.fr.length : Nat) : Int) by rw [wrap64 (by omega) (by omega)]; omega]
  refine ⟨n + r.fr.length, (ss.map Pr.lv).length, rfl, rfl, by simp; omega, Nat.le_refl _, sz, ?_⟩
  rw [drop_take_all, List.drop_zero, Nat.sub_zero, ← List.map_take, ← List.map_drop]
  ((repeat ((conv => whnf); first | refine brT ?_ | refine brF ?_)); conv => whnf)
  apply Exists.intro
  apply Exists.intro
  refine And.intro ?_ ?_
  · refine ⟨_, _, _, _, concat3_h (ss.take n) r.to (ss.drop (n + r.fr.length)) hb, rfl, rfl, rfl, rfl, ⟨rfl, flats_prs _, trivial⟩, ?_⟩
    ((repeat ((conv => whnf); first | refine brT ?_ | refine brF ?_)); conv => whnf)
    refine Weak.idn ?_ ?_ rfl
    · ((repeat ((conv => whnf); refine ⟨rfl, ?_⟩)); trivial)
    · exact ⟨rfl, rfl, rfl, rfl, rfl, trivial⟩
  · ((repeat ((conv => whnf); first | refine brT ?_ | refine brF ?_)); conv => whnf)
    exact ⟨[typHS e 0 ((replS r ss n).map Pr.lv).length], rfl, rfl, .inr ⟨[.old 4], ⟨rfl, rfl, trivial⟩, ⟨rfl, rfl, trivial⟩, rfl⟩⟩
end Go.Proofs.Ytfoecpjebbgegaa

namespace Go.Proofs.Ytfoecpjebbgegaa
open Go.Lg
set_option maxHeartbeats 1600000
set_option maxRecDepth 10000
set_option linter.unusedVariables false
set_option linter.unusedSimpArgs false

theorem l4Replace_h (r : Rul) (e : Int) (ss : List Pr) (n : Nat) (hn : n + r.fr.length ≤ ss.length) (hl : ss.length ≤ Go.maxLen) (hb : (replS r ss n).length * 16 ≤ 140737488355328) :
    HSpec env.P 95 [r.lv, typLV e ss, .int .i64 (n : Int)] [] (typHS (egoT e ss) 0 ((replS r ss n).map Pr.lv).length) [.arr 84 2 ((replS r ss n).map Pr.lv)] := by
  refine HSpec_of_code (E := env.x [] 0) env_ok.x (fn := Try.f95) Try.func95 rfl Try.call95 _ _ _ _ ?_
  have hl' := hl
  unfold Go.maxLen at hl
  have sz : ∀ x ∈ ss.map Pr.lv, x.size = 2 := prSzJ ss
  have hb2 := hb
  unfold replS at hb2
  rw [List.length_append, List.length_append] at hb2
  have b1 : ((ss.take n).map Pr.lv).length ≤ Go.maxLen := by rw [List.length_map]; unfold Go.maxLen; omega
  have b2 : ((ss.take n).map Pr.lv).length * 16 ≤ 140737488355328 := by rw [List.length_map]; omega
  have b3 : ((ss.take n).map Pr.lv ++ r.to.map Pr.lv).length ≤ Go.maxLen := by rw [List.length_append, List.length_map, List.length_map]; unfold Go.maxLen; omega
  have b4 : ((ss.take n).map Pr.lv ++ r.to.map Pr.lv).length * 16 ≤ 140737488355328 := by rw [List.length_append, List.length_map, List.length_map]; omega
  have b5 : ((ss.take n ++ r.to).map Pr.lv ++ (ss.drop (n + r.fr.length)).map Pr.lv).length ≤ Go.maxLen := by rw [List.length_append, List.length_map, List.length_map, List.length_append]; unfold Go.maxLen; omega
  have b6 : ((ss.take n ++ r.to).map Pr.lv ++ (ss.drop (n + r.fr.length)).map Pr.lv).length * 16 ≤ 140737488355328 := by rw [List.length_append, List.length_map, List.length_map, List.length_append]; omega
  ((repeat ((conv => whnf); first | refine brT ?_ | refine brF ?_)); conv => whnf)
  refine ⟨_, l3Ego_spec e ss, ?_⟩
  ((repeat ((conv => whnf); first | refine brT ?_ | refine brF ?_)); conv => whnf)
  refine ⟨false, 6, by kernel_rfl, ?_⟩
  ((repeat ((conv => whnf); first | refine brT ?_ | refine brF ?_)); conv => whnf)
  refine ⟨0, n, rfl, rfl, Nat.zero_le _, by simp; omega, sz, ?_⟩
  rw [List.drop_zero, Nat.sub_zero, ← List.map_take]
  ((repeat ((conv => whnf); first | refine brT ?_ | refine brF ?_)); conv => whnf)
  refine ⟨prSzJ (ss.take n), b1, b2, ?_⟩
  ((repeat ((conv => whnf); first | refine brT ?_ | refine brF ?_)); conv => whnf)
  refine ⟨prSzJ r.to, rfl, b3, b4, ?_⟩
  rw [← List.map_append]
  ((repeat ((conv => whnf); first | refine brT ?_ | refine brF ?_)); conv => whnf)
  refine ⟨false, 10, by kernel_rfl, ?_⟩
  ((repeat ((conv => whnf); first | refine brT ?_ | refine brF ?_)); conv => whnf)
  intro hf
  have elf : (r.fr.map Pr.lv).length = r.fr.length := List.length_map ..
  ((repeat ((conv => whnf); first | refine brT ?_ | refine brF ?_)); conv => whnf)
  rw [elf]
  rw [show IntKind.i64.wrap ((n : Int) + (r.fr.length : Int)) = ((n + r.fr.length : Nat) : Int) by rw [wrap64 (by omega) (by omega)]; omega]
  refine ⟨n + r.fr.length, (ss.map Pr.lv).length, rfl, rfl, by simp; omega, Nat.le_refl _, sz, ?_⟩
  rw [drop_take_all, ← List.map_drop]
  ((repeat ((conv => whnf); first | refine brT ?_ | refine brF ?_)); conv => whnf)
  refine ⟨prSzJ (ss.drop (n + r.fr.length)), rfl, b5, b6, ?_⟩
  rw [← List.map_append, List.append_assoc]
  ((repeat ((conv => whnf); first | refine brT ?_ | refine brF ?_)); conv => whnf)
  exact ⟨[typHS (egoT e ss) 0 ((replS r ss n).map Pr.lv).length], rfl, rfl, .inr ⟨[.old 6], ⟨rfl, rfl, trivial⟩, ⟨rfl, rfl, trivial⟩, rfl⟩⟩
end Go.Proofs.Ytfoecpjebbgegaa

namespace Go.Proofs.Ytfoecpjebbgegaa
open Go.Lg
set_option maxHeartbeats 1600000
set_option maxRecDepth 10000
set_option linter.unusedVariables false
set_option linter.unusedSimpArgs false

def rplE (r : Rul) (e : Int) (ss : List Pr) (i : Int) : Int := match fitsAtB r e ss i with | true => egoT e ss | false => 0
def rplL (r : Rul) (e : Int) (ss : List Pr) (i : Int) : List Pr := match fitsAtB r e ss i with | true => replS r ss i.toNat | false => []
def rplLV (r : Rul) (e : Int) (ss : List Pr) (i : Int) : LV := .tup [.st [.int .i64 (rplE r e ss i), .own 84 2 ((rplL r e ss i).map Pr.lv)], .bool (fitsAtB r e ss i)]
def rplHS (r : Rul) (e : Int) (ss : List Pr) (i : Int) : LV := .tup [typHS (rplE r e ss i) 0 ((rplL r e ss i).map Pr.lv).length, .bool (fitsAtB r e ss i)]
theorem rplLV_no {r : Rul} {e : Int} {ss : List Pr} {i : Int} (h : fitsAtB r e ss i = false) : rplLV r e ss i = .tup [.st [.int .i64 0, .own 84 2 []], .bool false] := by
  unfold rplLV rplE rplL; rw [h]; rfl
theorem rplLV_yes {r : Rul} {e : Int} {ss : List Pr} {i : Int} (h : fitsAtB r e ss i = true) : rplLV r e ss i = .tup [.st [.int .i64 (egoT e ss), .own 84 2 ((replS r ss i.toNat).map Pr.lv)], .bool true] := by
  unfold rplLV rplE rplL; rw [h]
theorem rplHS_no {r : Rul} {e : Int} {ss : List Pr} {i : Int} (h : fitsAtB r e ss i = false) : rplHS r e ss i = .tup [typHS 0 0 0, .bool false] ∧ rplL r e ss i = [] := by
  have e1 : rplL r e ss i = [] := by unfold rplL; rw [h]
  refine ⟨?_, e1⟩
  unfold rplHS rplE; rw [h, e1]; rfl
theorem rplHS_yes {r : Rul} {e : Int} {ss : List Pr} {i : Int} (h : fitsAtB r e ss i = true) : rplHS r e ss i = .tup [typHS (egoT e ss) 0 ((replS r ss i.toNat).map Pr.lv).length, .bool true] ∧ rplL r e ss i = replS r ss i.toNat := by
  have e1 : rplL r e ss i = replS r ss i.toNat := by unfold rplL; rw [h]
  refine ⟨?_, e1⟩
  unfold rplHS rplE; rw [h, e1]
theorem fits_le {r : Rul} {e : Int} {ss : List Pr} {i : Int} (h : fitsAtB r e ss i = true) : ∃ n : Nat, i = (n : Int) ∧ n + r.fr.length ≤ ss.length ∧ egoR e ss = egoT e ss := by
  unfold fitsAtB fitsB at h
  simp only [Bool.and_eq_true, leI_t] at h
  obtain ⟨_, h1, ⟨h2, h3⟩, _⟩ := h
  exact ⟨i.toNat, by omega, by omega, by unfold egoR; rw [h1]⟩
theorem repl_len {r : Rul} {ss : List Pr} {n : Nat} (hB : r.to.length + ss.length ≤ 2097152) : (replS r ss n).length * 16 ≤ 140737488355328 := by
  unfold replS
  rw [List.length_append, List.length_append, List.length_take, List.length_drop]
  omega
theorem repl_spec (r : Rul) (e : Int) (ss : List Pr) (i : Int) (hl : ss.length ≤ Go.maxLen) (hB : r.to.length + ss.length ≤ 2097152) : FSpec env.P 35 [r.lv, typLV e ss, .int .i64 i] (rplLV r e ss i) := by
  refine FSpec_of_code (E := env.x [95] 0) env_ok.x (fn := Try.f35) Try.func35 rfl Try.call35 _ _ ?_
  ((repeat ((conv => whnf); first | refine brT ?_ | refine brF ?_)); conv => whnf)
  refine ⟨_, fitsAt_spec r e ss i, ?_⟩
  ((repeat ((conv => whnf); first | refine brT ?_ | refine brF ?_)); conv => whnf)
  (refine ⟨fun h => ?_, fun h => ?_⟩ <;> rw [h])
  · rw [notB_t] at h
    rw [rplLV_no h]
    ((repeat ((conv => whnf); first | refine brT ?_ | refine brF ?_)); conv => whnf)
    exact ⟨_, rfl, rfl, rfl, rfl, by decide, rfl, rfl, List.nodup_nil⟩
  rw [notB_f] at h
  obtain ⟨n, rfl, hn, he⟩ := fits_le h
  rw [rplLV_yes h]
  rw [show ((n : Int)).toNat = n from rfl]
  ((repeat ((conv => whnf); first | refine brT ?_ | refine brF ?_)); conv => whnf)
  refine ⟨[], _, _, _, _, l4Replace_h r e ss n hn hl (repl_len hB), rfl, rfl, rfl, trivial, ?_⟩
  ((repeat ((conv => whnf); first | refine brT ?_ | refine brF ?_)); conv => whnf)
  exact ⟨_, rfl, rfl, rfl, rfl, rfl, rfl, rfl, rfl, rfl, by simp [exsW]⟩
theorem repl_impl (r : Rul) (e : Int) (ss : List Pr) (i : Int) (hl : ss.length ≤ Go.maxLen) (hB : r.to.length + ss.length ≤ 2097152) : HSpec env.P 36 [r.lv, typLV e ss, .int .i64 i] [] (rplHS r e ss i) [.arr 84 2 ((rplL r e ss i).map Pr.lv)] := by
  refine HSpec_of_code (E := env.x [96] 0) env_ok.x (fn := Try.f36) Try.func36 rfl Try.call36 _ _ _ _ ?_
  ((repeat ((conv => whnf); first | refine brT ?_ | refine brF ?_)); conv => whnf)
  refine ⟨_, fitsAt_impl r e ss i, ?_⟩
  ((repeat ((conv => whnf); first | refine brT ?_ | refine brF ?_)); conv => whnf)
  (refine ⟨fun h => ?_, fun h => ?_⟩ <;> rw [h])
  · rw [notB_t] at h
    rw [(rplHS_no h).1, (rplHS_no h).2]
    ((repeat ((conv => whnf); first | refine brT ?_ | refine brF ?_)); conv => whnf)
    exact ⟨[typHS 0 0 0, .bool false], rfl, rfl, .nl [.tmp 0 [1] false 84 2] [.old 3] ⟨⟨rfl, rfl, rfl, rfl, trivial⟩, ⟨rfl, rfl, trivial⟩, rfl⟩⟩
  rw [notB_f] at h
  obtain ⟨n, rfl, hn, he⟩ := fits_le h
  rw [(rplHS_yes h).1, (rplHS_yes h).2]
  rw [show ((n : Int)).toNat = n from rfl]
  ((repeat ((conv => whnf); first | refine brT ?_ | refine brF ?_)); conv => whnf)
  refine ⟨false, 0, 0, 2, [0, 1, 3], (.one 2 (.one 4 (.one 5 (.one 6 .done)))), by kernel_rfl, by kernel_rfl, ?_⟩
  ((repeat ((conv => whnf); first | refine brT ?_ | refine brF ?_)); conv => whnf)
  apply Exists.intro
  apply Exists.intro
  refine And.intro ?_ ?_
  · refine ⟨_, withSex_spec e ss, ?_⟩
    ((repeat ((conv => whnf); first | refine brT ?_ | refine brF ?_)); conv => whnf)
    refine ⟨_, _, _, _, replaced_h r (egoR e ss) ss n hn hl (repl_len hB), rfl, rfl, rfl, trivial, ?_⟩
    rw [he]
    ((repeat ((conv => whnf); first | refine brT ?_ | refine brF ?_)); conv => whnf)
    refine Weak.idn ?_ ?_ rfl
    · ((repeat ((conv => whnf); refine ⟨rfl, ?_⟩)); trivial)
    · exact ⟨rfl, rfl, rfl, rfl, trivial⟩
  ((repeat ((conv => whnf); first | refine brT ?_ | refine brF ?_)); conv => whnf)
  exact ⟨[typHS (egoT e ss) 0 ((replS r ss n).map Pr.lv).length, .bool true], rfl, rfl, .inr ⟨[.old 3], ⟨rfl, rfl, rfl, rfl, trivial⟩, ⟨rfl, rfl, trivial⟩, rfl⟩⟩
theorem repl_impl_f (r : Rul) (e : Int) (ss : List Pr) (i : Int) (hl : ss.length ≤ Go.maxLen) (hB : r.to.length + ss.length ≤ 2097152) : FSpec env.P 36 [r.lv, typLV e ss, .int .i64 i] (rplLV r e ss i) := by
  refine FSpec_of_code (E := env.x [96] 0) env_ok.x (fn := Try.f36) Try.func36 rfl Try.call36 _ _ ?_
  ((repeat ((conv => whnf); first | refine brT ?_ | refine brF ?_)); conv => whnf)
  refine ⟨_, fitsAt_impl r e ss i, ?_⟩
  ((repeat ((conv => whnf); first | refine brT ?_ | refine brF ?_)); conv => whnf)
  (refine ⟨fun h => ?_, fun h => ?_⟩ <;> rw [h])
  · rw [notB_t] at h
    rw [rplLV_no h]
    ((repeat ((conv => whnf); first | refine brT ?_ | refine brF ?_)); conv => whnf)
    exact ⟨_, rfl, rfl, rfl, rfl, by decide, rfl, rfl, List.nodup_nil⟩
  rw [notB_f] at h
  obtain ⟨n, rfl, hn, he⟩ := fits_le h
  rw [rplLV_yes h]
  rw [show ((n : Int)).toNat = n from rfl]
  ((repeat ((conv => whnf); first | refine brT ?_ | refine brF ?_)); conv => whnf)
  refine ⟨false, 0, 0, 2, [0, 1, 3], (.one 2 (.one 4 (.one 5 (.one 6 .done)))), by kernel_rfl, by kernel_rfl, ?_⟩
  ((repeat ((conv => whnf); first | refine brT ?_ | refine brF ?_)); conv => whnf)
  apply Exists.intro
  apply Exists.intro
  refine And.intro ?_ ?_
  · refine ⟨_, withSex_spec e ss, ?_⟩
    ((repeat ((conv => whnf); first | refine brT ?_ | refine brF ?_)); conv => whnf)
    refine ⟨_, _, _, _, replaced_h r (egoR e ss) ss n hn hl (repl_len hB), rfl, rfl, rfl, trivial, ?_⟩
    rw [he]
    ((repeat ((conv => whnf); first | refine brT ?_ | refine brF ?_)); conv => whnf)
    refine Weak.idn ?_ ?_ rfl
    · ((repeat ((conv => whnf); refine ⟨rfl, ?_⟩)); trivial)
    · exact ⟨rfl, rfl, rfl, rfl, trivial⟩
  ((repeat ((conv => whnf); first | refine brT ?_ | refine brF ?_)); conv => whnf)
  exact ⟨_, rfl, rfl, rfl, rfl, rfl, rfl, rfl, rfl, rfl, by simp [exsW]⟩
end Go.Proofs.Ytfoecpjebbgegaa

namespace Go.Proofs.Ytfoecpjebbgegaa
open Go.Lg
set_option maxHeartbeats 6400000
set_option maxRecDepth 10000
set_option linter.unusedVariables false
set_option linter.unusedSimpArgs false

theorem law_replaceAt (r : Rul) (e : Int) (ss : List Pr) (i : Int) (hr : r.OK) (hl : ss.length ≤ Go.maxLen) : FSpec env.P 6 [r.lv, typLV e ss, .int .i64 i] (.bool true) := by
  refine FSpec_of_code (E := env.x [36, 38, 37, 32, 22] 0) env_ok.x (fn := Try.f6) Try.func6 rfl Try.call6 _ _ ?_
  ((repeat ((conv => whnf); first | refine brT ?_ | refine brF ?_)); conv => whnf)
  refine ⟨_, szRule_spec r 1048576, ?_⟩
  ((repeat ((conv => whnf); first | refine brT ?_ | refine brF ?_)); conv => whnf)
  (refine ⟨fun h => ?_, fun h => ?_⟩ <;> rw [h])
  · ((repeat ((conv => whnf); first | refine brT ?_ | refine brF ?_)); conv => whnf)
    exact fin rfl
  obtain ⟨hB, h0, h1⟩ := szR_B hr (by omega) (by omega) h
  ((repeat ((conv => whnf); first | refine brT ?_ | refine brF ?_)); conv => whnf)
  refine ⟨_, szKinType_spec e ss (szR 1048576 r), ?_⟩
  by_cases h2 : 0 ≤ szT (szR 1048576 r) ss.length
  rotate_left
  · ((repeat ((conv => whnf); first | refine brT ?_ | refine brF ?_)); conv => whnf)
    rw [show ltI (szT (szR 1048576 r) ss.length) 0 = true by rw [ltI_t]; omega]
    ((repeat ((conv => whnf); first | refine brT ?_ | refine brF ?_)); conv => whnf)
    exact fin rfl
  obtain ⟨q1, q2, hf, hb, -⟩ := szT_ok h0 h1 hl h2
  have hBB : r.to.length + ss.length ≤ 2097152 := by have := hB.2.2.2; omega
  have hfr : r.fr.length ≤ 1048576 := hB.2.2.1
  have hto : r.to.length ≤ 1048576 := hB.2.2.2
  have hS := repl_spec r e ss i hl hBB
  have hI := repl_impl r e ss i hl hBB
  have hF := repl_impl_f r e ss i hl hBB
  have hLL : (rplL r e ss i).length ≤ 2097152 := by
    unfold rplL
    split
    · unfold replS
      rw [List.length_append, List.length_append, List.length_take, List.length_drop]
      omega
    · simp
  unfold rplLV at hS hF
  unfold rplHS at hI
  generalize rplE r e ss i = E1 at hS hI hF
  generalize rplL r e ss i = L1 at hS hI hF hLL
  generalize fitsAtB r e ss i = bb at hS hI hF
  have hm : (L1.map Pr.lv).length = ((markPrs 1 L1.length).map Pr.lv).length := by simp [markPrs_len]
  ((repeat ((conv => whnf); first | refine brT ?_ | refine brF ?_)); conv => whnf)
  rw [hf]
  ((repeat ((conv => whnf); first | refine brT ?_ | refine brF ?_)); conv => whnf)
  refine ⟨true, by kernel_rfl, ?_⟩
  ((repeat ((conv => whnf); first | refine brT ?_ | refine brF ?_)); conv => whnf)
  refine ⟨_, toRule_f r hB.1 hB.2.1, ?_⟩
  ((repeat ((conv => whnf); first | refine brT ?_ | refine brF ?_)); conv => whnf)
  refine ⟨_, toKinType_f e ss hb, ?_⟩
  ((repeat ((conv => whnf); first | refine brT ?_ | refine brF ?_)); conv => whnf)
  refine ⟨_, hS, ?_⟩
  ((repeat ((conv => whnf); first | refine brT ?_ | refine brF ?_)); conv => whnf)
  refine ⟨[], _, _, _, _, toRule_h r hB.1 hB.2.1, rfl, rfl, rfl, trivial, ?_⟩
  ((repeat ((conv => whnf); first | refine brT ?_ | refine brF ?_)); conv => whnf)
  refine ⟨[], _, _, _, _, toKinType_h e ss hb, rfl, rfl, rfl, trivial, ?_⟩
  ((repeat ((conv => whnf); first | refine brT ?_ | refine brF ?_)); conv => whnf)
  refine ⟨[], _, _, _, _, hI, rfl, ?_⟩
  ((repeat ((conv => whnf); first | refine brT ?_ | refine brF ?_)); conv => whnf)
  refine ⟨rfl, ?_⟩
  ((repeat ((conv => whnf); first | refine brT ?_ | refine brF ?_)); conv => whnf)
  refine ⟨rfl, ?_⟩
  ((repeat ((conv => whnf); first | refine brT ?_ | refine brF ?_)); conv => whnf)
  refine ⟨rfl, ?_⟩
  ((repeat ((conv => whnf); first | refine brT ?_ | refine brF ?_)); conv => whnf)
  refine ⟨rfl, rfl, ⟨rfl, flats_prs _, trivial⟩, ?_⟩
  ((repeat ((conv => whnf); first | refine brT ?_ | refine brF ?_)); conv => whnf)
  refine ⟨rfl, ?_⟩
  ((repeat ((conv => whnf); first | refine brT ?_ | refine brF ?_)); conv => whnf)
  refine ⟨_, eqKinType_spec E1 L1 E1 L1, ?_⟩
  rw [eqTyp_refl]
  ((repeat ((conv => whnf); first | refine brT ?_ | refine brF ?_)); conv => whnf)
  rw [show notB true = false by simp [notB]]
  ((repeat ((conv => whnf); first | refine brT ?_ | refine brF ?_)); conv => whnf)
  rw [eqB_refl, show notB true = false by simp [notB]]
  ((repeat ((conv => whnf); first | refine brT ?_ | refine brF ?_)); conv => whnf)
  refine ⟨true, by kernel_rfl, ?_⟩
  ((repeat ((conv => whnf); first | refine brT ?_ | refine brF ?_)); conv => whnf)
  refine ⟨_, toRule_f r hB.1 hB.2.1, ?_⟩
  ((repeat ((conv => whnf); first | refine brT ?_ | refine brF ?_)); conv => whnf)
  refine ⟨rfl, ?_⟩
  ((repeat ((conv => whnf); first | refine brT ?_ | refine brF ?_)); conv => whnf)
  refine ⟨rfl, ?_⟩
  ((repeat ((conv => whnf); first | refine brT ?_ | refine brF ?_)); conv => whnf)
  refine ⟨_, eqRule_spec r r, ?_⟩
  rw [Rul.eq_refl]
  ((repeat ((conv => whnf); first | refine brT ?_ | refine brF ?_)); conv => whnf)
  rw [show notB true = false by simp [notB]]
  ((repeat ((conv => whnf); first | refine brT ?_ | refine brF ?_)); conv => whnf)
  refine ⟨true, by kernel_rfl, ?_⟩
  ((repeat ((conv => whnf); first | refine brT ?_ | refine brF ?_)); conv => whnf)
  refine ⟨_, toKinType_f e ss hb, ?_⟩
  ((repeat ((conv => whnf); first | refine brT ?_ | refine brF ?_)); conv => whnf)
  refine ⟨rfl, ?_⟩
  ((repeat ((conv => whnf); first | refine brT ?_ | refine brF ?_)); conv => whnf)
  refine ⟨_, eqKinType_spec e ss e ss, ?_⟩
  rw [eqTyp_refl]
  ((repeat ((conv => whnf); first | refine brT ?_ | refine brF ?_)); conv => whnf)
  rw [show notB true = false by simp [notB]]
  ((repeat ((conv => whnf); first | refine brT ?_ | refine brF ?_)); conv => whnf)
  refine ⟨[3, 4], _, _, _, _, markRule_spec r _ _ rfl rfl 1 (by omega), rfl, rfl, rfl, trivial, ?_⟩
  ((repeat ((conv => whnf); first | refine brT ?_ | refine brF ?_)); conv => whnf)
  refine ⟨[6], _, _, _, _, markKinType_spec e ss _ rfl (1 + 2 * r.fr.length + 2 * r.to.length) (by omega), rfl, rfl, rfl, trivial, ?_⟩
  ((repeat ((conv => whnf); first | refine brT ?_ | refine brF ?_)); conv => whnf)
  rw [show ltI ((1 + 2 * r.fr.length + 2 * r.to.length + 2 * ss.length : Nat) : Int) 0 = false by rw [ltI_f]; omega]
  ((repeat ((conv => whnf); first | refine brT ?_ | refine brF ?_)); conv => whnf)
  refine ⟨rfl, ?_⟩
  ((repeat ((conv => whnf); first | refine brT ?_ | refine brF ?_)); conv => whnf)
  refine ⟨_, eqKinType_spec E1 L1 E1 L1, ?_⟩
  rw [eqTyp_refl]
  ((repeat ((conv => whnf); first | refine brT ?_ | refine brF ?_)); conv => whnf)
  rw [show notB true = false by simp [notB]]
  ((repeat ((conv => whnf); first | refine brT ?_ | refine brF ?_)); conv => whnf)
  rw [eqB_refl, show notB true = false by simp [notB]]
  ((repeat ((conv => whnf); first | refine brT ?_ | refine brF ?_)); conv => whnf)
  refine ⟨[8], _, _, _, _, markKinType_spec E1 L1 _ rfl 1 (by omega), rfl, rfl, rfl, trivial, ?_⟩
  ((repeat ((conv => whnf); first | refine brT ?_ | refine brF ?_)); conv => whnf)
  refine ⟨hm, ?_⟩
  ((repeat ((conv => whnf); first | refine brT ?_ | refine brF ?_)); conv => whnf)
  refine ⟨_, heldKinType_spec E1 1 L1.length (by omega), ?_⟩
  ((repeat ((conv => whnf); first | refine brT ?_ | refine brF ?_)); conv => whnf)
  rw [show ltI ((1 + 2 * L1.length : Nat) : Int) 0 = false by rw [ltI_f]; omega]
  ((repeat ((conv => whnf); first | refine brT ?_ | refine brF ?_)); conv => whnf)
  rw [eqI_refl, show notB true = false by simp [notB]]
  ((repeat ((conv => whnf); first | refine brT ?_ | refine brF ?_)); conv => whnf)
  refine ⟨true, by kernel_rfl, ?_⟩
  ((repeat ((conv => whnf); first | refine brT ?_ | refine brF ?_)); conv => whnf)
  refine ⟨_, toRule_f r hB.1 hB.2.1, ?_⟩
  ((repeat ((conv => whnf); first | refine brT ?_ | refine brF ?_)); conv => whnf)
  refine ⟨_, toKinType_f e ss hb, ?_⟩
  ((repeat ((conv => whnf); first | refine brT ?_ | refine brF ?_)); conv => whnf)
  refine ⟨_, hF, ?_⟩
  ((repeat ((conv => whnf); first | refine brT ?_ | refine brF ?_)); conv => whnf)
  refine ⟨_, eqKinType_spec E1 L1 E1 L1, ?_⟩
  rw [eqTyp_refl]
  ((repeat ((conv => whnf); first | refine brT ?_ | refine brF ?_)); conv => whnf)
  rw [show notB true = false by simp [notB]]
  ((repeat ((conv => whnf); first | refine brT ?_ | refine brF ?_)); conv => whnf)
  rw [eqB_refl, show notB true = false by simp [notB]]
  ((repeat ((conv => whnf); first | refine brT ?_ | refine brF ?_)); conv => whnf)
  refine ⟨hm, ?_⟩
  ((repeat ((conv => whnf); first | refine brT ?_ | refine brF ?_)); conv => whnf)
  refine ⟨_, heldKinType_spec E1 1 L1.length (by omega), ?_⟩
  ((repeat ((conv => whnf); first | refine brT ?_ | refine brF ?_)); conv => whnf)
  rw [show ltI ((1 + 2 * L1.length : Nat) : Int) 0 = false by rw [ltI_f]; omega]
  ((repeat ((conv => whnf); first | refine brT ?_ | refine brF ?_)); conv => whnf)
  rw [eqI_refl, show notB true = false by simp [notB]]
  ((repeat ((conv => whnf); first | refine brT ?_ | refine brF ?_)); conv => whnf)
  exact fin rfl
end Go.Proofs.Ytfoecpjebbgegaa
