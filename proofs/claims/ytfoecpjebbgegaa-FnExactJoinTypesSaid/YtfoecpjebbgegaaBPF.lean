/- Contracts of functions of the program and of its model, told over readings. -/
import Derived.Test.YtfoecpjebbgegaaBPE
import Derived.Test.YtfoecpjebbgegaaBPB
namespace Go.Proofs.Ytfoecpjebbgegaa
open Go.Lg
set_option maxHeartbeats 1600000
set_option maxRecDepth 10000
set_option linter.unusedVariables false
set_option linter.unusedSimpArgs false

/-- Two types that cannot be joined. -/
def refJ (e : Int) (ss : List Pr) (f : Int) (ts : List Pr) : Bool := notB (typB e ss) || (notB (typB f ts) || (notB (eqI f 0) && (notB (eqI (lastT e ss) 0) && notB (eqI f (lastT e ss)))))
def egoJ (e : Int) (ss : List Pr) (f : Int) : Int := match eqI e 0 with | true => (match eqI (ss.length : Int) 0 with | true => f | false => e) | false => e
def okJ (e : Int) (ss : List Pr) (f : Int) (ts : List Pr) : Bool := notB (refJ e ss f ts) && typB (egoJ e ss f) (ss ++ ts)
def joinE (e : Int) (ss : List Pr) (f : Int) (ts : List Pr) : Int := match okJ e ss f ts with | true => egoJ e ss f | false => 0
def joinL (e : Int) (ss : List Pr) (f : Int) (ts : List Pr) : List Pr := match okJ e ss f ts with | true => ss ++ ts | false => []
def joinLV (e : Int) (ss : List Pr) (f : Int) (ts : List Pr) : LV := .tup [.st [.int .i64 (joinE e ss f ts), .own 84 2 ((joinL e ss f ts).map Pr.lv)], .bool (okJ e ss f ts)]
theorem joinLV_no {e : Int} {ss : List Pr} {f : Int} {ts : List Pr} (h : okJ e ss f ts = false) : joinLV e ss f ts = .tup [.st [.int .i64 0, .own 84 2 []], .bool false] := by
  unfold joinLV joinE joinL; rw [h]; rfl
theorem joinLV_yes {e : Int} {ss : List Pr} {f : Int} {ts : List Pr} (h : okJ e ss f ts = true) : joinLV e ss f ts = .tup [.st [.int .i64 (egoJ e ss f), .own 84 2 ((ss ++ ts).map Pr.lv)], .bool true] := by
  unfold joinLV joinE joinL; rw [h]
theorem okJ_ref {e : Int} {ss : List Pr} {f : Int} {ts : List Pr} (h : refJ e ss f ts = true) : okJ e ss f ts = false := by unfold okJ; rw [h]; simp [notB]
theorem prSzJ (ss : List Pr) : ∀ y ∈ ss.map Pr.lv, y.size = 2 := fun y hy => by obtain ⟨p, _, rfl⟩ := List.mem_map.1 hy; rfl
theorem join_spec (e : Int) (ss : List Pr) (f : Int) (ts : List Pr) (hl : ss.length + ts.length ≤ 1048576) : FSpec env.P 50 [typLV e ss, typLV f ts] (joinLV e ss f ts) := by
  refine FSpec_of_code env_ok (fn := Try.f50) Try.func50 rfl Try.call50 _ _ ?_
  have b1 : (ss.map Pr.lv).length ≤ Go.maxLen := by rw [List.length_map]; unfold Go.maxLen; omega
  have b2 : (ss.map Pr.lv).length * 16 ≤ 140737488355328 := by rw [List.length_map]; omega
  have b3 : (ss.map Pr.lv ++ ts.map Pr.lv).length ≤ Go.maxLen := by rw [List.length_append, List.length_map, List.length_map]; unfold Go.maxLen; omega
  have b4 : (ss.map Pr.lv ++ ts.map Pr.lv).length * 16 ≤ 140737488355328 := by rw [List.length_append, List.length_map, List.length_map]; omega
  ((repeat ((conv => whnf); first | refine brT ?_ | refine brF ?_)); conv => whnf)
  refine ⟨true, by kernel_rfl, ?_⟩
  ((repeat ((conv => whnf); first | refine brT ?_ | refine brF ?_)); conv => whnf)
  refine ⟨_, isType_spec e ss, ?_⟩
  ((repeat ((conv => whnf); first | refine brT ?_ | refine brF ?_)); conv => whnf)
  (refine ⟨fun h1 => ?_, fun h1 => ?_⟩ <;> rw [h1])
  · rw [joinLV_no (okJ_ref (by unfold refJ; rw [h1]; rfl))]
    ((repeat ((conv => whnf); first | refine brT ?_ | refine brF ?_)); conv => whnf)
    exact ⟨_, rfl, rfl, rfl, rfl, by decide, rfl, rfl, List.nodup_nil⟩
  ((repeat ((conv => whnf); first | refine brT ?_ | refine brF ?_)); conv => whnf)
  refine ⟨_, isType_spec f ts, ?_⟩
  ((repeat ((conv => whnf); first | refine brT ?_ | refine brF ?_)); conv => whnf)
  (refine ⟨fun h2 => ?_, fun h2 => ?_⟩ <;> rw [h2])
  · rw [joinLV_no (okJ_ref (by unfold refJ; rw [h1, h2]; rfl))]
    ((repeat ((conv => whnf); first | refine brT ?_ | refine brF ?_)); conv => whnf)
    exact ⟨_, rfl, rfl, rfl, rfl, by decide, rfl, rfl, List.nodup_nil⟩
  ((repeat ((conv => whnf); first | refine brT ?_ | refine brF ?_)); conv => whnf)
  (refine ⟨fun h3 => ?_, fun h3 => ?_⟩ <;> rw [h3])
  · ((repeat ((conv => whnf); first | refine brT ?_ | refine brF ?_)); conv => whnf)
    refine ⟨_, l3Last_spec e ss, ?_⟩
    ((repeat ((conv => whnf); first | refine brT ?_ | refine brF ?_)); conv => whnf)
    (refine ⟨fun h4 => ?_, fun h4 => ?_⟩ <;> rw [h4])
    · ((repeat ((conv => whnf); first | refine brT ?_ | refine brF ?_)); conv => whnf)
      refine ⟨_, l3Last_spec e ss, ?_⟩
      ((repeat ((conv => whnf); first | refine brT ?_ | refine brF ?_)); conv => whnf)
      (refine ⟨fun h5 => ?_, fun h5 => ?_⟩ <;> rw [h5])
      · rw [joinLV_no (okJ_ref (by unfold refJ; rw [h1, h2, h3, h4, h5]; rfl))]
        ((repeat ((conv => whnf); first | refine brT ?_ | refine brF ?_)); conv => whnf)
        exact ⟨_, rfl, rfl, rfl, rfl, by decide, rfl, rfl, List.nodup_nil⟩
      · have hr : refJ e ss f ts = false := by unfold refJ; rw [h1, h2, h3, h4, h5]; rfl
        ((repeat ((conv => whnf); first | refine brT ?_ | refine brF ?_)); conv => whnf)
        (refine ⟨fun g1 => ?_, fun g1 => ?_⟩ <;> rw [g1])
        · ((repeat ((conv => whnf); first | refine brT ?_ | refine brF ?_)); conv => whnf)
          intro hp
          rw [List.length_map]
          ((repeat ((conv => whnf); first | refine brT ?_ | refine brF ?_)); conv => whnf)
          (refine ⟨fun g2 => ?_, fun g2 => ?_⟩ <;> rw [g2])
          · ((repeat ((conv => whnf); first | refine brT ?_ | refine brF ?_)); conv => whnf)
            have hE : egoJ e ss f = f := by unfold egoJ; rw [g1, g2]
            refine ⟨prSzJ ss, b1, b2, ?_⟩
            ((repeat ((conv => whnf); first | refine brT ?_ | refine brF ?_)); conv => whnf)
            refine ⟨prSzJ ts, rfl, b3, b4, ?_⟩
            rw [← List.map_append]
            ((repeat ((conv => whnf); first | refine brT ?_ | refine brF ?_)); conv => whnf)
            refine ⟨rfl, ?_⟩
            ((repeat ((conv => whnf); first | refine brT ?_ | refine brF ?_)); conv => whnf)
            refine ⟨_, isType_spec f (ss ++ ts), ?_⟩
            ((repeat ((conv => whnf); first | refine brT ?_ | refine brF ?_)); conv => whnf)
            (refine ⟨fun g5 => ?_, fun g5 => ?_⟩ <;> rw [g5])
            · rw [joinLV_no (by unfold okJ; rw [hE]; rw [notB_t] at g5; rw [g5]; simp)]
              ((repeat ((conv => whnf); first | refine brT ?_ | refine brF ?_)); conv => whnf)
              exact ⟨_, rfl, rfl, rfl, rfl, by decide, rfl, rfl, List.nodup_nil⟩
            · rw [joinLV_yes (by unfold okJ; rw [hr, hE]; rw [notB_f] at g5; rw [g5]; simp [notB]), hE]
              ((repeat ((conv => whnf); first | refine brT ?_ | refine brF ?_)); conv => whnf)
              exact ⟨_, rfl, rfl, rfl, rfl, rfl, rfl, rfl, rfl, rfl, by simp [exsW]⟩
          · ((repeat ((conv => whnf); first | refine brT ?_ | refine brF ?_)); conv => whnf)
            have hE : egoJ e ss f = e := by unfold egoJ; rw [g1, g2]
            refine ⟨prSzJ ss, b1, b2, ?_⟩
            ((repeat ((conv => whnf); first | refine brT ?_ | refine brF ?_)); conv => whnf)
            refine ⟨prSzJ ts, rfl, b3, b4, ?_⟩
            rw [← List.map_append]
            ((repeat ((conv => whnf); first | refine brT ?_ | refine brF ?_)); conv => whnf)
            refine ⟨rfl, ?_⟩
            ((repeat ((conv => whnf); first | refine brT ?_ | refine brF ?_)); conv => whnf)
            refine ⟨_, isType_spec e (ss ++ ts), ?_⟩
            ((repeat ((conv => whnf); first | refine brT ?_ | refine brF ?_)); conv => whnf)
            (refine ⟨fun g5 => ?_, fun g5 => ?_⟩ <;> rw [g5])
            · rw [joinLV_no (by unfold okJ; rw [hE]; rw [notB_t] at g5; rw [g5]; simp)]
              ((repeat ((conv => whnf); first | refine brT ?_ | refine brF ?_)); conv => whnf)
              exact ⟨_, rfl, rfl, rfl, rfl, by decide, rfl, rfl, List.nodup_nil⟩
            · rw [joinLV_yes (by unfold okJ; rw [hr, hE]; rw [notB_f] at g5; rw [g5]; simp [notB]), hE]
              ((repeat ((conv => whnf); first | refine brT ?_ | refine brF ?_)); conv => whnf)
              exact ⟨_, rfl, rfl, rfl, rfl, rfl, rfl, rfl, rfl, rfl, by simp [exsW]⟩
        · have hE : egoJ e ss f = e := by unfold egoJ; rw [g1]
          ((repeat ((conv => whnf); first | refine brT ?_ | refine brF ?_)); conv => whnf)
          refine ⟨prSzJ ss, b1, b2, ?_⟩
          ((repeat ((conv => whnf); first | refine brT ?_ | refine brF ?_)); conv => whnf)
          refine ⟨prSzJ ts, rfl, b3, b4, ?_⟩
          rw [← List.map_append]
          ((repeat ((conv => whnf); first | refine brT ?_ | refine brF ?_)); conv => whnf)
          refine ⟨rfl, ?_⟩
          ((repeat ((conv => whnf); first | refine brT ?_ | refine brF ?_)); conv => whnf)
          refine ⟨_, isType_spec e (ss ++ ts), ?_⟩
          ((repeat ((conv => whnf); first | refine brT ?_ | refine brF ?_)); conv => whnf)
          (refine ⟨fun g5 => ?_, fun g5 => ?_⟩ <;> rw [g5])
          · rw [joinLV_no (by unfold okJ; rw [hE]; rw [notB_t] at g5; rw [g5]; simp)]
            ((repeat ((conv => whnf); first | refine brT ?_ | refine brF ?_)); conv => whnf)
            exact ⟨_, rfl, rfl, rfl, rfl, by decide, rfl, rfl, List.nodup_nil⟩
          · rw [joinLV_yes (by unfold okJ; rw [hr, hE]; rw [notB_f] at g5; rw [g5]; simp [notB]), hE]
            ((repeat ((conv => whnf); first | refine brT ?_ | refine brF ?_)); conv => whnf)
            exact ⟨_, rfl, rfl, rfl, rfl, rfl, rfl, rfl, rfl, rfl, by simp [exsW]⟩
    · have hr : refJ e ss f ts = false := by unfold refJ; rw [h1, h2, h3, h4]; rfl
      ((repeat ((conv => whnf); first | refine brT ?_ | refine brF ?_)); conv => whnf)
      (refine ⟨fun g1 => ?_, fun g1 => ?_⟩ <;> rw [g1])
      · ((repeat ((conv => whnf); first | refine brT ?_ | refine brF ?_)); conv => whnf)
        intro hp
        rw [List.length_map]
        ((repeat ((conv => whnf); first | refine brT ?_ | refine brF ?_)); conv => whnf)
        (refine ⟨fun g2 => ?_, fun g2 => ?_⟩ <;> rw [g2])
        · ((repeat ((conv => whnf); first | refine brT ?_ | refine brF ?_)); conv => whnf)
          have hE : egoJ e ss f = f := by unfold egoJ; rw [g1, g2]
          refine ⟨prSzJ ss, b1, b2, ?_⟩
          ((repeat ((conv => whnf); first | refine brT ?_ | refine brF ?_)); conv => whnf)
          refine ⟨prSzJ ts, rfl, b3, b4, ?_⟩
          rw [← List.map_append]
          ((repeat ((conv => whnf); first | refine brT ?_ | refine brF ?_)); conv => whnf)
          refine ⟨rfl, ?_⟩
          ((repeat ((conv => whnf); first | refine brT ?_ | refine brF ?_)); conv => whnf)
          refine ⟨_, isType_spec f (ss ++ ts), ?_⟩
          ((repeat ((conv => whnf); first | refine brT ?_ | refine brF ?_)); conv => whnf)
          (refine ⟨fun g5 => ?_, fun g5 => ?_⟩ <;> rw [g5])
          · rw [joinLV_no (by unfold okJ; rw [hE]; rw [notB_t] at g5; rw [g5]; simp)]
            ((repeat ((conv => whnf); first | refine brT ?_ | refine brF ?_)); conv => whnf)
            exact ⟨_, rfl, rfl, rfl, rfl, by decide, rfl, rfl, List.nodup_nil⟩
          · rw [joinLV_yes (by unfold okJ; rw [hr, hE]; rw [notB_f] at g5; rw [g5]; simp [notB]), hE]
            ((repeat ((conv => whnf); first | refine brT ?_ | refine brF ?_)); conv => whnf)
            exact ⟨_, rfl, rfl, rfl, rfl, rfl, rfl, rfl, rfl, rfl, by simp [exsW]⟩
        · ((repeat ((conv => whnf); first | refine brT ?_ | refine brF ?_)); conv => whnf)
          have hE : egoJ e ss f = e := by unfold egoJ; rw [g1, g2]
          refine ⟨prSzJ ss, b1, b2, ?_⟩
          ((repeat ((conv => whnf); first | refine brT ?_ | refine brF ?_)); conv => whnf)
          refine ⟨prSzJ ts, rfl, b3, b4, ?_⟩
          rw [← List.map_append]
          ((repeat ((conv => whnf); first | refine brT ?_ | refine brF ?_)); conv => whnf)
          refine ⟨rfl, ?_⟩
          ((repeat ((conv => whnf); first | refine brT ?_ | refine brF ?_)); conv => whnf)
          refine ⟨_, isType_spec e (ss ++ ts), ?_⟩
          ((repeat ((conv => whnf); first | refine brT ?_ | refine brF ?_)); conv => whnf)
          (refine ⟨fun g5 => ?_, fun g5 => ?_⟩ <;> rw [g5])
          · rw [joinLV_no (by unfold okJ; rw [hE]; rw [notB_t] at g5; rw [g5]; simp)]
            ((repeat ((conv => whnf); first | refine brT ?_ | refine brF ?_)); conv => whnf)
            exact ⟨_, rfl, rfl, rfl, rfl, by decide, rfl, rfl, List.nodup_nil⟩
          · rw [joinLV_yes (by unfold okJ; rw [hr, hE]; rw [notB_f] at g5; rw [g5]; simp [notB]), hE]
            ((repeat ((conv => whnf); first | refine brT ?_ | refine brF ?_)); conv => whnf)
            exact ⟨_, rfl, rfl, rfl, rfl, rfl, rfl, rfl, rfl, rfl, by simp [exsW]⟩
      · have hE : egoJ e ss f = e := by unfold egoJ; rw [g1]
        ((repeat ((conv => whnf); first | refine brT ?_ | refine brF ?_)); conv => whnf)
        refine ⟨prSzJ ss, b1, b2, ?_⟩
        ((repeat ((conv => whnf); first | refine brT ?_ | refine brF ?_)); conv => whnf)
        refine ⟨prSzJ ts, rfl, b3, b4, ?_⟩
        rw [← List.map_append]
        ((repeat ((conv => whnf); first | refine brT ?_ | refine brF ?_)); conv => whnf)
        refine ⟨rfl, ?_⟩
        ((repeat ((conv => whnf); first | refine brT ?_ | refine brF ?_)); conv => whnf)
        refine ⟨_, isType_spec e (ss ++ ts), ?_⟩
        ((repeat ((conv => whnf); first | refine brT ?_ | refine brF ?_)); conv => whnf)
        (refine ⟨fun g5 => ?_, fun g5 => ?_⟩ <;> rw [g5])
        · rw [joinLV_no (by unfold okJ; rw [hE]; rw [notB_t] at g5; rw [g5]; simp)]
          ((repeat ((conv => whnf); first | refine brT ?_ | refine brF ?_)); conv => whnf)
          exact ⟨_, rfl, rfl, rfl, rfl, by decide, rfl, rfl, List.nodup_nil⟩
        · rw [joinLV_yes (by unfold okJ; rw [hr, hE]; rw [notB_f] at g5; rw [g5]; simp [notB]), hE]
          ((repeat ((conv => whnf); first | refine brT ?_ | refine brF ?_)); conv => whnf)
          exact ⟨_, rfl, rfl, rfl, rfl, rfl, rfl, rfl, rfl, rfl, by simp [exsW]⟩
  · have hr : refJ e ss f ts = false := by unfold refJ; rw [h1, h2, h3]; rfl
    ((repeat ((conv => whnf); first | refine brT ?_ | refine brF ?_)); conv => whnf)
    (refine ⟨fun g1 => ?_, fun g1 => ?_⟩ <;> rw [g1])
    · ((repeat ((conv => whnf); first | refine brT ?_ | refine brF ?_)); conv => whnf)
      intro hp
      rw [List.length_map]
      ((repeat ((conv => whnf); first | refine brT ?_ | refine brF ?_)); conv => whnf)
      (refine ⟨fun g2 => ?_, fun g2 => ?_⟩ <;> rw [g2])
      · ((repeat ((conv => whnf); first | refine brT ?_ | refine brF ?_)); conv => whnf)
        have hE : egoJ e ss f = f := by unfold egoJ; rw [g1, g2]
        refine ⟨prSzJ ss, b1, b2, ?_⟩
        ((repeat ((conv => whnf); first | refine brT ?_ | refine brF ?_)); conv => whnf)
        refine ⟨prSzJ ts, rfl, b3, b4, ?_⟩
        rw [← List.map_append]
        ((repeat ((conv => whnf); first | refine brT ?_ | refine brF ?_)); conv => whnf)
        refine ⟨rfl, ?_⟩
        ((repeat ((conv => whnf); first | refine brT ?_ | refine brF ?_)); conv => whnf)
        refine ⟨_, isType_spec f (ss ++ ts), ?_⟩
        ((repeat ((conv => whnf); first | refine brT ?_ | refine brF ?_)); conv => whnf)
        (refine ⟨fun g5 => ?_, fun g5 => ?_⟩ <;> rw [g5])
        · rw [joinLV_no (by unfold okJ; rw [hE]; rw [notB_t] at g5; rw [g5]; simp)]
          ((repeat ((conv => whnf); first | refine brT ?_ | refine brF ?_)); conv => whnf)
          exact ⟨_, rfl, rfl, rfl, rfl, by decide, rfl, rfl, List.nodup_nil⟩
        · rw [joinLV_yes (by unfold okJ; rw [hr, hE]; rw [notB_f] at g5; rw [g5]; simp [notB]), hE]
          ((repeat ((conv => whnf); first | refine brT ?_ | refine brF ?_)); conv => whnf)
          exact ⟨_, rfl, rfl, rfl, rfl, rfl, rfl, rfl, rfl, rfl, by simp [exsW]⟩
      · ((repeat ((conv => whnf); first | refine brT ?_ | refine brF ?_)); conv => whnf)
        have hE : egoJ e ss f = e := by unfold egoJ; rw [g1, g2]
        refine ⟨prSzJ ss, b1, b2, ?_⟩
        ((repeat ((conv => whnf); first | refine brT ?_ | refine brF ?_)); conv => whnf)
        refine ⟨prSzJ ts, rfl, b3, b4, ?_⟩
        rw [← List.map_append]
        ((repeat ((conv => whnf); first | refine brT ?_ | refine brF ?_)); conv => whnf)
        refine ⟨rfl, ?_⟩
        ((repeat ((conv => whnf); first | refine brT ?_ | refine brF ?_)); conv => whnf)
        refine ⟨_, isType_spec e (ss ++ ts), ?_⟩
        ((repeat ((conv => whnf); first | refine brT ?_ | refine brF ?_)); conv => whnf)
        (refine ⟨fun g5 => ?_, fun g5 => ?_⟩ <;> rw [g5])
        · rw [joinLV_no (by unfold okJ; rw [hE]; rw [notB_t] at g5; rw [g5]; simp)]
          ((repeat ((conv => whnf); first | refine brT ?_ | refine brF ?_)); conv => whnf)
          exact ⟨_, rfl, rfl, rfl, rfl, by decide, rfl, rfl, List.nodup_nil⟩
        · rw [joinLV_yes (by unfold okJ; rw [hr, hE]; rw [notB_f] at g5; rw [g5]; simp [notB]), hE]
          ((repeat ((conv => whnf); first | refine brT ?_ | refine brF ?_)); conv => whnf)
          exact ⟨_, rfl, rfl, rfl, rfl, rfl, rfl, rfl, rfl, rfl, by simp [exsW]⟩
    · have hE : egoJ e ss f = e := by unfold egoJ; rw [g1]
      ((repeat ((conv => whnf); first | refine brT ?_ | refine brF ?_)); conv => whnf)
      refine ⟨prSzJ ss, b1, b2, ?_⟩
      ((repeat ((conv => whnf); first | refine brT ?_ | refine brF ?_)); conv => whnf)
      refine ⟨prSzJ ts, rfl, b3, b4, ?_⟩
      rw [← List.map_append]
      ((repeat ((conv => whnf); first | refine brT ?_ | refine brF ?_)); conv => whnf)
      refine ⟨rfl, ?_⟩
      ((repeat ((conv => whnf); first | refine brT ?_ | refine brF ?_)); conv => whnf)
      refine ⟨_, isType_spec e (ss ++ ts), ?_⟩
      ((repeat ((conv => whnf); first | refine brT ?_ | refine brF ?_)); conv => whnf)
      (refine ⟨fun g5 => ?_, fun g5 => ?_⟩ <;> rw [g5])
      · rw [joinLV_no (by unfold okJ; rw [hE]; rw [notB_t] at g5; rw [g5]; simp)]
        ((repeat ((conv => whnf); first | refine brT ?_ | refine brF ?_)); conv => whnf)
        exact ⟨_, rfl, rfl, rfl, rfl, by decide, rfl, rfl, List.nodup_nil⟩
      · rw [joinLV_yes (by unfold okJ; rw [hr, hE]; rw [notB_f] at g5; rw [g5]; simp [notB]), hE]
        ((repeat ((conv => whnf); first | refine brT ?_ | refine brF ?_)); conv => whnf)
        exact ⟨_, rfl, rfl, rfl, rfl, rfl, rfl, rfl, rfl, rfl, by simp [exsW]⟩
end Go.Proofs.Ytfoecpjebbgegaa

namespace Go.Proofs.Ytfoecpjebbgegaa
open Go.Lg
set_option maxHeartbeats 1600000
set_option maxRecDepth 10000
set_option linter.unusedVariables false
set_option linter.unusedSimpArgs false

theorem concat2_h (ss ts : List Pr) (h : (ss ++ ts).length * 16 ≤ 140737488355328) : HSpec env.P 108 [.sl [.sl (ss.map Pr.lv), .sl (ts.map Pr.lv)]] [] (.hs 0 ((ss ++ ts).map Pr.lv).length) [.arr 84 2 ((ss ++ ts).map Pr.lv)] := by
  have e : [ss, ts].flatten = ss ++ ts := by simp
  have := concat_h [ss, ts] (by rw [e]; exact h)
  rw [e] at this
  exact this
theorem sxOf_pos (k : Int) : sxOf k ≠ 0 := by unfold sxOf; split <;> decide
theorem egoJ_last (e : Int) (ss : List Pr) (f : Int) : egoJ e ss f = match eqI (lastT e ss) 0 with | true => f | false => e := by
  unfold egoJ
  by_cases h : 0 < ss.length
  · have h1 : eqI (ss.length : Int) 0 = false := by rw [eqI_f]; omega
    have h2 : eqI (lastT e ss) 0 = false := by rw [lastT_at h, eqI_f]; exact sxOf_pos _
    rw [h1, h2]
    cases eqI e 0 <;> rfl
  · have : ss = [] := List.eq_nil_of_length_eq_zero (by omega)
    subst this
    have h1 : eqI (([] : List Pr).length : Int) 0 = true := by rw [eqI_t]; rfl
    have h2 : lastT e [] = e := rfl
    rw [h1, h2]
    all_goals (cases eqI e 0 <;> rfl)
def joinHS (e : Int) (ss : List Pr) (f : Int) (ts : List Pr) : LV := .tup [typHS (joinE e ss f ts) 0 ((joinL e ss f ts).map Pr.lv).length, .bool (okJ e ss f ts)]
theorem joinHS_no {e : Int} {ss : List Pr} {f : Int} {ts : List Pr} (h : okJ e ss f ts = false) : joinHS e ss f ts = .tup [typHS 0 0 0, .bool false] ∧ joinL e ss f ts = [] := by
  have e1 : joinL e ss f ts = [] := by unfold joinL; rw [h]
  refine ⟨?_, e1⟩
  unfold joinHS joinE; rw [h, e1]; rfl
theorem joinHS_yes {e : Int} {ss : List Pr} {f : Int} {ts : List Pr} (h : okJ e ss f ts = true) : joinHS e ss f ts = .tup [typHS (egoJ e ss f) 0 ((ss ++ ts).map Pr.lv).length, .bool true] ∧ joinL e ss f ts = ss ++ ts := by
  have e1 : joinL e ss f ts = ss ++ ts := by unfold joinL; rw [h]
  refine ⟨?_, e1⟩
  unfold joinHS joinE; rw [h, e1]
theorem join_impl (e : Int) (ss : List Pr) (f : Int) (ts : List Pr) (hl : ss.length + ts.length ≤ 1048576) : HSpec env.P 51 [typLV e ss, typLV f ts] [] (joinHS e ss f ts) [.arr 84 2 ((joinL e ss f ts).map Pr.lv)] := by
  refine HSpec_of_code (E := env.x [108] 0) env_ok.x (fn := Try.f51) Try.func51 rfl Try.call51 _ _ _ _ ?_
  have b5 : (ss ++ ts).length * 16 ≤ 140737488355328 := by rw [List.length_append]; omega
  ((repeat ((conv => whnf); first | refine brT ?_ | refine brF ?_)); conv => whnf)
  refine ⟨_, isType_impl e ss, ?_⟩
  ((repeat ((conv => whnf); first | refine brT ?_ | refine brF ?_)); conv => whnf)
  (refine ⟨fun h1 => ?_, fun h1 => ?_⟩ <;> rw [h1])
  · rw [(joinHS_no (okJ_ref (by unfold refJ; rw [h1]; rfl))).1, (joinHS_no (okJ_ref (by unfold refJ; rw [h1]; rfl))).2]
    ((repeat ((conv => whnf); first | refine brT ?_ | refine brF ?_)); conv => whnf)
    exact ⟨[typHS 0 0 0, .bool false], rfl, rfl, .nl [.tmp 0 [1] false 84 2] [.old 3] ⟨⟨rfl, rfl, rfl, rfl, trivial⟩, ⟨rfl, rfl, trivial⟩, rfl⟩⟩
  ((repeat ((conv => whnf); first | refine brT ?_ | refine brF ?_)); conv => whnf)
  refine ⟨_, isType_impl f ts, ?_⟩
  ((repeat ((conv => whnf); first | refine brT ?_ | refine brF ?_)); conv => whnf)
  (refine ⟨fun h2 => ?_, fun h2 => ?_⟩ <;> rw [h2])
  · rw [(joinHS_no (okJ_ref (by unfold refJ; rw [h1, h2]; rfl))).1, (joinHS_no (okJ_ref (by unfold refJ; rw [h1, h2]; rfl))).2]
    ((repeat ((conv => whnf); first | refine brT ?_ | refine brF ?_)); conv => whnf)
    exact ⟨[typHS 0 0 0, .bool false], rfl, rfl, .nl [.tmp 0 [1] false 84 2] [.old 3] ⟨⟨rfl, rfl, rfl, rfl, trivial⟩, ⟨rfl, rfl, trivial⟩, rfl⟩⟩
  ((repeat ((conv => whnf); first | refine brT ?_ | refine brF ?_)); conv => whnf)
  refine ⟨_, sexOfType_impl e ss, ?_⟩
  have hs : sexR e ss = lastT e ss := by unfold sexR; rw [notB_f] at h1; rw [h1]
  rw [hs]
  ((repeat ((conv => whnf); first | refine brT ?_ | refine brF ?_)); conv => whnf)
  (refine ⟨fun h4 => ?_, fun h4 => ?_⟩ <;> rw [h4])
  · ((repeat ((conv => whnf); first | refine brT ?_ | refine brF ?_)); conv => whnf)
    (refine ⟨fun h3 => ?_, fun h3 => ?_⟩ <;> rw [h3])
    · ((repeat ((conv => whnf); first | refine brT ?_ | refine brF ?_)); conv => whnf)
      (refine ⟨fun h5 => ?_, fun h5 => ?_⟩ <;> rw [h5])
      · have h5' : notB (eqI f (lastT e ss)) = true := by rw [← h5]; simp [notB, eqI_d, eq_comm]
        rw [(joinHS_no (okJ_ref (by unfold refJ; rw [h1, h2, h3, h4, h5']; rfl))).1, (joinHS_no (okJ_ref (by unfold refJ; rw [h1, h2, h3, h4, h5']; rfl))).2]
        ((repeat ((conv => whnf); first | refine brT ?_ | refine brF ?_)); conv => whnf)
        exact ⟨[typHS 0 0 0, .bool false], rfl, rfl, .nl [.tmp 0 [1] false 84 2] [.old 3] ⟨⟨rfl, rfl, rfl, rfl, trivial⟩, ⟨rfl, rfl, trivial⟩, rfl⟩⟩
      · have h5' : notB (eqI f (lastT e ss)) = false := by rw [← h5]; simp [notB, eqI_d, eq_comm]
        have hr : refJ e ss f ts = false := by unfold refJ; rw [h1, h2, h3, h4, h5']; rfl
        ((repeat ((conv => whnf); first | refine brT ?_ | refine brF ?_)); conv => whnf)
        refine ⟨false, 0, 0, false, [0, 1, 2, 3, 4, 5], (.alt 6 (.alt 7 (.alt 8 (.one 9 (.one 10 .done)) (.one 9 (.one 8 (.one 10 .done)))) (.one 9 (.one 7 (.one 8 (.one 10 .done))))) (.one 9 (.one 6 (.one 7 (.one 8 (.one 10 .done)))))), by kernel_rfl, ?_⟩
        ((repeat ((conv => whnf); first | refine brT ?_ | refine brF ?_)); conv => whnf)
        apply Exists.intro
        apply Exists.intro
        refine And.intro ?_ ?_
        · refine And.intro ?_ ?_
          · ((repeat ((conv => whnf); first | refine brT ?_ | refine brF ?_)); conv => whnf)
            refine And.intro ?_ ?_
            · ((repeat ((conv => whnf); first | refine brT ?_ | refine brF ?_)); conv => whnf)
              refine ⟨_, _, _, _, concat2_h ss ts b5, rfl, rfl, rfl, rfl, ⟨rfl, flats_prs _, trivial⟩, ?_⟩
              ((repeat ((conv => whnf); first | refine brT ?_ | refine brF ?_)); conv => whnf)
              refine And.intro ?_ ?_
              · ((repeat ((conv => whnf); first | refine brT ?_ | refine brF ?_)); conv => whnf)
                refine Weak.idn ?_ ?_ rfl
                · ((repeat ((conv => whnf); refine ⟨rfl, ?_⟩)); trivial)
                · exact ⟨rfl, rfl, rfl, rfl, rfl, rfl, trivial⟩
              · ((repeat ((conv => whnf); first | refine brT ?_ | refine brF ?_)); conv => whnf)
                refine .inr ⟨[.old 0, .old 1, .old 2, .old 3, .old 4, .old 5], ?_, ⟨rfl, rfl, rfl, rfl, rfl, rfl, rfl, rfl, rfl, rfl, rfl, rfl, trivial⟩, rfl⟩
                ((repeat ((conv => whnf); refine ⟨rfl, rfl, ?_⟩)); trivial)
            · ((repeat ((conv => whnf); first | refine brT ?_ | refine brF ?_)); conv => whnf)
              refine ⟨_, _, _, _, concat2_h ss ts b5, rfl, rfl, rfl, rfl, ⟨rfl, flats_prs _, trivial⟩, ?_⟩
              ((repeat ((conv => whnf); first | refine brT ?_ | refine brF ?_)); conv => whnf)
              refine .inr ⟨[.old 0, .old 1, .old 2, .old 3, .old 5, .old 4], ?_, ⟨rfl, rfl, rfl, rfl, rfl, rfl, rfl, rfl, rfl, rfl, rfl, rfl, trivial⟩, rfl⟩
              ((repeat ((conv => whnf); refine ⟨rfl, rfl, ?_⟩)); trivial)
          · ((repeat ((conv => whnf); first | refine brT ?_ | refine brF ?_)); conv => whnf)
            refine ⟨_, _, _, _, concat2_h ss ts b5, rfl, rfl, rfl, rfl, ⟨rfl, flats_prs _, trivial⟩, ?_⟩
            ((repeat ((conv => whnf); first | refine brT ?_ | refine brF ?_)); conv => whnf)
            refine .inr ⟨[.old 0, .old 1, .old 2, .old 4, .old 5, .old 3], ?_, ⟨rfl, rfl, rfl, rfl, rfl, rfl, rfl, rfl, rfl, rfl, rfl, rfl, trivial⟩, rfl⟩
            ((repeat ((conv => whnf); refine ⟨rfl, rfl, ?_⟩)); trivial)
        · ((repeat ((conv => whnf); first | refine brT ?_ | refine brF ?_)); conv => whnf)
          (refine ⟨fun g1 => ?_, fun g1 => ?_⟩ <;> rw [g1])
          · ((repeat ((conv => whnf); first | refine brT ?_ | refine brF ?_)); conv => whnf)
            have hE : egoJ e ss f = f := by rw [egoJ_last, g1]
            refine ⟨rfl, ?_⟩
            ((repeat ((conv => whnf); first | refine brT ?_ | refine brF ?_)); conv => whnf)
            refine ⟨_, isType_impl f (ss ++ ts), ?_⟩
            ((repeat ((conv => whnf); first | refine brT ?_ | refine brF ?_)); conv => whnf)
            (refine ⟨fun g5 => ?_, fun g5 => ?_⟩ <;> rw [g5])
            · rw [(joinHS_no (by unfold okJ; rw [hE]; rw [notB_t] at g5; rw [g5]; simp)).1, (joinHS_no (by unfold okJ; rw [hE]; rw [notB_t] at g5; rw [g5]; simp)).2]
              ((repeat ((conv => whnf); first | refine brT ?_ | refine brF ?_)); conv => whnf)
              exact ⟨[typHS 0 0 0, .bool false], rfl, rfl, .nl [.tmp 0 [1] false 84 2] [.old 6] ⟨⟨rfl, rfl, rfl, rfl, trivial⟩, ⟨rfl, rfl, trivial⟩, rfl⟩⟩
            · rw [(joinHS_yes (by unfold okJ; rw [hr, hE]; rw [notB_f] at g5; rw [g5]; simp [notB])).1, (joinHS_yes (by unfold okJ; rw [hr, hE]; rw [notB_f] at g5; rw [g5]; simp [notB])).2, hE]
              ((repeat ((conv => whnf); first | refine brT ?_ | refine brF ?_)); conv => whnf)
              exact ⟨[typHS f 0 ((ss ++ ts).map Pr.lv).length, .bool true], rfl, rfl, .inr ⟨[.old 4], ⟨rfl, rfl, rfl, rfl, trivial⟩, ⟨rfl, rfl, trivial⟩, rfl⟩⟩
          · ((repeat ((conv => whnf); first | refine brT ?_ | refine brF ?_)); conv => whnf)
            have hE : egoJ e ss f = e := by rw [egoJ_last, g1]
            refine ⟨rfl, ?_⟩
            ((repeat ((conv => whnf); first | refine brT ?_ | refine brF ?_)); conv => whnf)
            refine ⟨_, isType_impl e (ss ++ ts), ?_⟩
            ((repeat ((conv => whnf); first | refine brT ?_ | refine brF ?_)); conv => whnf)
            (refine ⟨fun g5 => ?_, fun g5 => ?_⟩ <;> rw [g5])
            · rw [(joinHS_no (by unfold okJ; rw [hE]; rw [notB_t] at g5; rw [g5]; simp)).1, (joinHS_no (by unfold okJ; rw [hE]; rw [notB_t] at g5; rw [g5]; simp)).2]
              ((repeat ((conv => whnf); first | refine brT ?_ | refine brF ?_)); conv => whnf)
              exact ⟨[typHS 0 0 0, .bool false], rfl, rfl, .nl [.tmp 0 [1] false 84 2] [.old 6] ⟨⟨rfl, rfl, rfl, rfl, trivial⟩, ⟨rfl, rfl, trivial⟩, rfl⟩⟩
            · rw [(joinHS_yes (by unfold okJ; rw [hr, hE]; rw [notB_f] at g5; rw [g5]; simp [notB])).1, (joinHS_yes (by unfold okJ; rw [hr, hE]; rw [notB_f] at g5; rw [g5]; simp [notB])).2, hE]
              ((repeat ((conv => whnf); first | refine brT ?_ | refine brF ?_)); conv => whnf)
              exact ⟨[typHS e 0 ((ss ++ ts).map Pr.lv).length, .bool true], rfl, rfl, .inr ⟨[.old 4], ⟨rfl, rfl, rfl, rfl, trivial⟩, ⟨rfl, rfl, trivial⟩, rfl⟩⟩
    · have hr : refJ e ss f ts = false := by unfold refJ; rw [h1, h2, h3]; rfl
      ((repeat ((conv => whnf); first | refine brT ?_ | refine brF ?_)); conv => whnf)
      refine ⟨false, 0, 0, false, [0, 1, 2, 3, 4, 5], (.alt 6 (.alt 7 (.alt 8 (.one 9 (.one 10 .done)) (.one 9 (.one 8 (.one 10 .done)))) (.one 9 (.one 7 (.one 8 (.one 10 .done))))) (.one 9 (.one 6 (.one 7 (.one 8 (.one 10 .done)))))), by kernel_rfl, ?_⟩
      ((repeat ((conv => whnf); first | refine brT ?_ | refine brF ?_)); conv => whnf)
      apply Exists.intro
      apply Exists.intro
      refine And.intro ?_ ?_
      · refine And.intro ?_ ?_
        · ((repeat ((conv => whnf); first | refine brT ?_ | refine brF ?_)); conv => whnf)
          refine And.intro ?_ ?_
          · ((repeat ((conv => whnf); first | refine brT ?_ | refine brF ?_)); conv => whnf)
            refine ⟨_, _, _, _, concat2_h ss ts b5, rfl, rfl, rfl, rfl, ⟨rfl, flats_prs _, trivial⟩, ?_⟩
            ((repeat ((conv => whnf); first | refine brT ?_ | refine brF ?_)); conv => whnf)
            refine And.intro ?_ ?_
            · ((repeat ((conv => whnf); first | refine brT ?_ | refine brF ?_)); conv => whnf)
              refine Weak.idn ?_ ?_ rfl
              · ((repeat ((conv => whnf); refine ⟨rfl, ?_⟩)); trivial)
              · exact ⟨rfl, rfl, rfl, rfl, rfl, rfl, trivial⟩
            · ((repeat ((conv => whnf); first | refine brT ?_ | refine brF ?_)); conv => whnf)
              refine .inr ⟨[.old 0, .old 1, .old 2, .old 3, .old 4, .old 5], ?_, ⟨rfl, rfl, rfl, rfl, rfl, rfl, rfl, rfl, rfl, rfl, rfl, rfl, trivial⟩, rfl⟩
              ((repeat ((conv => whnf); refine ⟨rfl, rfl, ?_⟩)); trivial)
          · ((repeat ((conv => whnf); first | refine brT ?_ | refine brF ?_)); conv => whnf)
            refine ⟨_, _, _, _, concat2_h ss ts b5, rfl, rfl, rfl, rfl, ⟨rfl, flats_prs _, trivial⟩, ?_⟩
            ((repeat ((conv => whnf); first | refine brT ?_ | refine brF ?_)); conv => whnf)
            refine .inr ⟨[.old 0, .old 1, .old 2, .old 3, .old 5, .old 4], ?_, ⟨rfl, rfl, rfl, rfl, rfl, rfl, rfl, rfl, rfl, rfl, rfl, rfl, trivial⟩, rfl⟩
            ((repeat ((conv => whnf); refine ⟨rfl, rfl, ?_⟩)); trivial)
        · ((repeat ((conv => whnf); first | refine brT ?_ | refine brF ?_)); conv => whnf)
          refine ⟨_, _, _, _, concat2_h ss ts b5, rfl, rfl, rfl, rfl, ⟨rfl, flats_prs _, trivial⟩, ?_⟩
          ((repeat ((conv => whnf); first | refine brT ?_ | refine brF ?_)); conv => whnf)
          refine .inr ⟨[.old 0, .old 1, .old 2, .old 4, .old 5, .old 3], ?_, ⟨rfl, rfl, rfl, rfl, rfl, rfl, rfl, rfl, rfl, rfl, rfl, rfl, trivial⟩, rfl⟩
          ((repeat ((conv => whnf); refine ⟨rfl, rfl, ?_⟩)); trivial)
      · ((repeat ((conv => whnf); first | refine brT ?_ | refine brF ?_)); conv => whnf)
        (refine ⟨fun g1 => ?_, fun g1 => ?_⟩ <;> rw [g1])
        · ((repeat ((conv => whnf); first | refine brT ?_ | refine brF ?_)); conv => whnf)
          have hE : egoJ e ss f = f := by rw [egoJ_last, g1]
          refine ⟨rfl, ?_⟩
          ((repeat ((conv => whnf); first | refine brT ?_ | refine brF ?_)); conv => whnf)
          refine ⟨_, isType_impl f (ss ++ ts), ?_⟩
          ((repeat ((conv => whnf); first | refine brT ?_ | refine brF ?_)); conv => whnf)
          (refine ⟨fun g5 => ?_, fun g5 => ?_⟩ <;> rw [g5])
          · rw [(joinHS_no (by unfold okJ; rw [hE]; rw [notB_t] at g5; rw [g5]; simp)).1, (joinHS_no (by unfold okJ; rw [hE]; rw [notB_t] at g5; rw [g5]; simp)).2]
            ((repeat ((conv => whnf); first | refine brT ?_ | refine brF ?_)); conv => whnf)
            exact ⟨[typHS 0 0 0, .bool false], rfl, rfl, .nl [.tmp 0 [1] false 84 2] [.old 6] ⟨⟨rfl, rfl, rfl, rfl, trivial⟩, ⟨rfl, rfl, trivial⟩, rfl⟩⟩
          · rw [(joinHS_yes (by unfold okJ; rw [hr, hE]; rw [notB_f] at g5; rw [g5]; simp [notB])).1, (joinHS_yes (by unfold okJ; rw [hr, hE]; rw [notB_f] at g5; rw [g5]; simp [notB])).2, hE]
            ((repeat ((conv => whnf); first | refine brT ?_ | refine brF ?_)); conv => whnf)
            exact ⟨[typHS f 0 ((ss ++ ts).map Pr.lv).length, .bool true], rfl, rfl, .inr ⟨[.old 4], ⟨rfl, rfl, rfl, rfl, trivial⟩, ⟨rfl, rfl, trivial⟩, rfl⟩⟩
        · ((repeat ((conv => whnf); first | refine brT ?_ | refine brF ?_)); conv => whnf)
          have hE : egoJ e ss f = e := by rw [egoJ_last, g1]
          refine ⟨rfl, ?_⟩
          ((repeat ((conv => whnf); first | refine brT ?_ | refine brF ?_)); conv => whnf)
          refine ⟨_, isType_impl e (ss ++ ts), ?_⟩
          ((repeat ((conv => whnf); first | refine brT ?_ | refine brF ?_)); conv => whnf)
          (refine ⟨fun g5 => ?_, fun g5 => ?_⟩ <;> rw [g5])
          · rw [(joinHS_no (by unfold okJ; rw [hE]; rw [notB_t] at g5; rw [g5]; simp)).1, (joinHS_no (by unfold okJ; rw [hE]; rw [notB_t] at g5; rw [g5]; simp)).2]
            ((repeat ((conv => whnf); first | refine brT ?_ | refine brF ?_)); conv => whnf)
            exact ⟨[typHS 0 0 0, .bool false], rfl, rfl, .nl [.tmp 0 [1] false 84 2] [.old 6] ⟨⟨rfl, rfl, rfl, rfl, trivial⟩, ⟨rfl, rfl, trivial⟩, rfl⟩⟩
          · rw [(joinHS_yes (by unfold okJ; rw [hr, hE]; rw [notB_f] at g5; rw [g5]; simp [notB])).1, (joinHS_yes (by unfold okJ; rw [hr, hE]; rw [notB_f] at g5; rw [g5]; simp [notB])).2, hE]
            ((repeat ((conv => whnf); first | refine brT ?_ | refine brF ?_)); conv => whnf)
            exact ⟨[typHS e 0 ((ss ++ ts).map Pr.lv).length, .bool true], rfl, rfl, .inr ⟨[.old 4], ⟨rfl, rfl, rfl, rfl, trivial⟩, ⟨rfl, rfl, trivial⟩, rfl⟩⟩
  · have hr : refJ e ss f ts = false := by unfold refJ; rw [h1, h2, h4]; simp
    ((repeat ((conv => whnf); first | refine brT ?_ | refine brF ?_)); conv => whnf)
    refine ⟨false, 0, 0, false, [0, 1, 2, 3, 4, 5], (.alt 6 (.alt 7 (.alt 8 (.one 9 (.one 10 .done)) (.one 9 (.one 8 (.one 10 .done)))) (.one 9 (.one 7 (.one 8 (.one 10 .done))))) (.one 9 (.one 6 (.one 7 (.one 8 (.one 10 .done)))))), by kernel_rfl, ?_⟩
    ((repeat ((conv => whnf); first | refine brT ?_ | refine brF ?_)); conv => whnf)
    apply Exists.intro
    apply Exists.intro
    refine And.intro ?_ ?_
    · refine And.intro ?_ ?_
      · ((repeat ((conv => whnf); first | refine brT ?_ | refine brF ?_)); conv => whnf)
        refine And.intro ?_ ?_
        · ((repeat ((conv => whnf); first | refine brT ?_ | refine brF ?_)); conv => whnf)
          refine ⟨_, _, _, _, concat2_h ss ts b5, rfl, rfl, rfl, rfl, ⟨rfl, flats_prs _, trivial⟩, ?_⟩
          ((repeat ((conv => whnf); first | refine brT ?_ | refine brF ?_)); conv => whnf)
          refine And.intro ?_ ?_
          · ((repeat ((conv => whnf); first | refine brT ?_ | refine brF ?_)); conv => whnf)
            refine Weak.idn ?_ ?_ rfl
            · ((repeat ((conv => whnf); refine ⟨rfl, ?_⟩)); trivial)
            · exact ⟨rfl, rfl, rfl, rfl, rfl, rfl, trivial⟩
          · ((repeat ((conv => whnf); first | refine brT ?_ | refine brF ?_)); conv => whnf)
            refine .inr ⟨[.old 0, .old 1, .old 2, .old 3, .old 4, .old 5], ?_, ⟨rfl, rfl, rfl, rfl, rfl, rfl, rfl, rfl, rfl, rfl, rfl, rfl, trivial⟩, rfl⟩
            ((repeat ((conv => whnf); refine ⟨rfl, rfl, ?_⟩)); trivial)
        · ((repeat ((conv => whnf); first | refine brT ?_ | refine brF ?_)); conv => whnf)
          refine ⟨_, _, _, _, concat2_h ss ts b5, rfl, rfl, rfl, rfl, ⟨rfl, flats_prs _, trivial⟩, ?_⟩
          ((repeat ((conv => whnf); first | refine brT ?_ | refine brF ?_)); conv => whnf)
          refine .inr ⟨[.old 0, .old 1, .old 2, .old 3, .old 5, .old 4], ?_, ⟨rfl, rfl, rfl, rfl, rfl, rfl, rfl, rfl, rfl, rfl, rfl, rfl, trivial⟩, rfl⟩
          ((repeat ((conv => whnf); refine ⟨rfl, rfl, ?_⟩)); trivial)
      · ((repeat ((conv => whnf); first | refine brT ?_ | refine brF ?_)); conv => whnf)
        refine ⟨_, _, _, _, concat2_h ss ts b5, rfl, rfl, rfl, rfl, ⟨rfl, flats_prs _, trivial⟩, ?_⟩
        ((repeat ((conv => whnf); first | refine brT ?_ | refine brF ?_)); conv => whnf)
        refine .inr ⟨[.old 0, .old 1, .old 2, .old 4, .old 5, .old 3], ?_, ⟨rfl, rfl, rfl, rfl, rfl, rfl, rfl, rfl, rfl, rfl, rfl, rfl, trivial⟩, rfl⟩
        ((repeat ((conv => whnf); refine ⟨rfl, rfl, ?_⟩)); trivial)
    · ((repeat ((conv => whnf); first | refine brT ?_ | refine brF ?_)); conv => whnf)
      (refine ⟨fun g1 => ?_, fun g1 => ?_⟩ <;> rw [g1])
      · ((repeat ((conv => whnf); first | refine brT ?_ | refine brF ?_)); conv => whnf)
        have hE : egoJ e ss f = f := by rw [egoJ_last, g1]
        refine ⟨rfl, ?_⟩
        ((repeat ((conv => whnf); first | refine brT ?_ | refine brF ?_)); conv => whnf)
        refine ⟨_, isType_impl f (ss ++ ts), ?_⟩
        ((repeat ((conv => whnf); first | refine brT ?_ | refine brF ?_)); conv => whnf)
        (refine ⟨fun g5 => ?_, fun g5 => ?_⟩ <;> rw [g5])
        · rw [(joinHS_no (by unfold okJ; rw [hE]; rw [notB_t] at g5; rw [g5]; simp)).1, (joinHS_no (by unfold okJ; rw [hE]; rw [notB_t] at g5; rw [g5]; simp)).2]
          ((repeat ((conv => whnf); first | refine brT ?_ | refine brF ?_)); conv => whnf)
          exact ⟨[typHS 0 0 0, .bool false], rfl, rfl, .nl [.tmp 0 [1] false 84 2] [.old 6] ⟨⟨rfl, rfl, rfl, rfl, trivial⟩, ⟨rfl, rfl, trivial⟩, rfl⟩⟩
        · rw [(joinHS_yes (by unfold okJ; rw [hr, hE]; rw [notB_f] at g5; rw [g5]; simp [notB])).1, (joinHS_yes (by unfold okJ; rw [hr, hE]; rw [notB_f] at g5; rw [g5]; simp [notB])).2, hE]
          ((repeat ((conv => whnf); first | refine brT ?_ | refine brF ?_)); conv => whnf)
          exact ⟨[typHS f 0 ((ss ++ ts).map Pr.lv).length, .bool true], rfl, rfl, .inr ⟨[.old 4], ⟨rfl, rfl, rfl, rfl, trivial⟩, ⟨rfl, rfl, trivial⟩, rfl⟩⟩
      · ((repeat ((conv => whnf); first | refine brT ?_ | refine brF ?_)); conv => whnf)
        have hE : egoJ e ss f = e := by rw [egoJ_last, g1]
        refine ⟨rfl, ?_⟩
        ((repeat ((conv => whnf); first | refine brT ?_ | refine brF ?_)); conv => whnf)
        refine ⟨_, isType_impl e (ss ++ ts), ?_⟩
        ((repeat ((conv => whnf); first | refine brT ?_ | refine brF ?_)); conv => whnf)
        (refine ⟨fun g5 => ?_, fun g5 => ?_⟩ <;> rw [g5])
        · rw [(joinHS_no (by unfold okJ; rw [hE]; rw [notB_t] at g5; rw [g5]; simp)).1, (joinHS_no (by unfold okJ; rw [hE]; rw [notB_t] at g5; rw [g5]; simp)).2]
          ((repeat ((conv => whnf); first | refine brT ?_ | refine brF ?_)); conv => whnf)
          exact ⟨[typHS 0 0 0, .bool false], rfl, rfl, .nl [.tmp 0 [1] false 84 2] [.old 6] ⟨⟨rfl, rfl, rfl, rfl, trivial⟩, ⟨rfl, rfl, trivial⟩, rfl⟩⟩
        · rw [(joinHS_yes (by unfold okJ; rw [hr, hE]; rw [notB_f] at g5; rw [g5]; simp [notB])).1, (joinHS_yes (by unfold okJ; rw [hr, hE]; rw [notB_f] at g5; rw [g5]; simp [notB])).2, hE]
          ((repeat ((conv => whnf); first | refine brT ?_ | refine brF ?_)); conv => whnf)
          exact ⟨[typHS e 0 ((ss ++ ts).map Pr.lv).length, .bool true], rfl, rfl, .inr ⟨[.old 4], ⟨rfl, rfl, rfl, rfl, trivial⟩, ⟨rfl, rfl, trivial⟩, rfl⟩⟩
end Go.Proofs.Ytfoecpjebbgegaa

namespace Go.Proofs.Ytfoecpjebbgegaa
open Go.Lg
set_option maxHeartbeats 1600000
set_option maxRecDepth 10000
set_option linter.unusedVariables false
set_option linter.unusedSimpArgs false

theorem join_impl_f (e : Int) (ss : List Pr) (f : Int) (ts : List Pr) (hl : ss.length + ts.length ≤ 1048576) : FSpec env.P 51 [typLV e ss, typLV f ts] (joinLV e ss f ts) := by
  refine FSpec_of_code (E := env.x [108] 0) env_ok.x (fn := Try.f51) Try.func51 rfl Try.call51 _ _ ?_
  have b5 : (ss ++ ts).length * 16 ≤ 140737488355328 := by rw [List.length_append]; omega
  ((repeat ((conv => whnf); first | refine brT ?_ | refine brF ?_)); conv => whnf)
  refine ⟨_, isType_impl e ss, ?_⟩
  ((repeat ((conv => whnf); first | refine brT ?_ | refine brF ?_)); conv => whnf)
  (refine ⟨fun h1 => ?_, fun h1 => ?_⟩ <;> rw [h1])
  · rw [joinLV_no (okJ_ref (by unfold refJ; rw [h1]; rfl))]
    ((repeat ((conv => whnf); first | refine brT ?_ | refine brF ?_)); conv => whnf)
    exact ⟨_, rfl, rfl, rfl, rfl, by decide, rfl, rfl, List.nodup_nil⟩
  ((repeat ((conv => whnf); first | refine brT ?_ | refine brF ?_)); conv => whnf)
  refine ⟨_, isType_impl f ts, ?_⟩
  ((repeat ((conv => whnf); first | refine brT ?_ | refine brF ?_)); conv => whnf)
  (refine ⟨fun h2 => ?_, fun h2 => ?_⟩ <;> rw [h2])
  · rw [joinLV_no (okJ_ref (by unfold refJ; rw [h1, h2]; rfl))]
    ((repeat ((conv => whnf); first | refine brT ?_ | refine brF ?_)); conv => whnf)
    exact ⟨_, rfl, rfl, rfl, rfl, by decide, rfl, rfl, List.nodup_nil⟩
  ((repeat ((conv => whnf); first | refine brT ?_ | refine brF ?_)); conv => whnf)
  refine ⟨_, sexOfType_impl e ss, ?_⟩
  have hs : sexR e ss = lastT e ss := by unfold sexR; rw [notB_f] at h1; rw [h1]
  rw [hs]
  ((repeat ((conv => whnf); first | refine brT ?_ | refine brF ?_)); conv => whnf)
  (refine ⟨fun h4 => ?_, fun h4 => ?_⟩ <;> rw [h4])
  · ((repeat ((conv => whnf); first | refine brT ?_ | refine brF ?_)); conv => whnf)
    (refine ⟨fun h3 => ?_, fun h3 => ?_⟩ <;> rw [h3])
    · ((repeat ((conv => whnf); first | refine brT ?_ | refine brF ?_)); conv => whnf)
      (refine ⟨fun h5 => ?_, fun h5 => ?_⟩ <;> rw [h5])
      · have h5' : notB (eqI f (lastT e ss)) = true := by rw [← h5]; simp [notB, eqI_d, eq_comm]
        rw [joinLV_no (okJ_ref (by unfold refJ; rw [h1, h2, h3, h4, h5']; rfl))]
        ((repeat ((conv => whnf); first | refine brT ?_ | refine brF ?_)); conv => whnf)
        exact ⟨_, rfl, rfl, rfl, rfl, by decide, rfl, rfl, List.nodup_nil⟩
      · have h5' : notB (eqI f (lastT e ss)) = false := by rw [← h5]; simp [notB, eqI_d, eq_comm]
        have hr : refJ e ss f ts = false := by unfold refJ; rw [h1, h2, h3, h4, h5']; rfl
        ((repeat ((conv => whnf); first | refine brT ?_ | refine brF ?_)); conv => whnf)
        refine ⟨false, 0, 0, false, [0, 1, 2, 3, 4, 5], (.alt 6 (.alt 7 (.alt 8 (.one 9 (.one 10 .done)) (.one 9 (.one 8 (.one 10 .done)))) (.one 9 (.one 7 (.one 8 (.one 10 .done))))) (.one 9 (.one 6 (.one 7 (.one 8 (.one 10 .done)))))), by kernel_rfl, ?_⟩
        ((repeat ((conv => whnf); first | refine brT ?_ | refine brF ?_)); conv => whnf)
        apply Exists.intro
        apply Exists.intro
        refine And.intro ?_ ?_
        · refine And.intro ?_ ?_
          · ((repeat ((conv => whnf); first | refine brT ?_ | refine brF ?_)); conv => whnf)
            refine And.intro ?_ ?_
            · ((repeat ((conv => whnf); first | refine brT ?_ | refine brF ?_)); conv => whnf)
              refine ⟨_, _, _, _, concat2_h ss ts b5, rfl, rfl, rfl, rfl, ⟨rfl, flats_prs _, trivial⟩, ?_⟩
              ((repeat ((conv => whnf); first | refine brT ?_ | refine brF ?_)); conv => whnf)
              refine And.intro ?_ ?_
              · ((repeat ((conv => whnf); first | refine brT ?_ | refine brF ?_)); conv => whnf)
                refine Weak.idn ?_ ?_ rfl
                · ((repeat ((conv => whnf); refine ⟨rfl, ?_⟩)); trivial)
                · exact ⟨rfl, rfl, rfl, rfl, rfl, rfl, trivial⟩
              · ((repeat ((conv => whnf); first | refine brT ?_ | refine brF ?_)); conv => whnf)
                refine .inr ⟨[.old 0, .old 1, .old 2, .old 3, .old 4, .old 5], ?_, ⟨rfl, rfl, rfl, rfl, rfl, rfl, rfl, rfl, rfl, rfl, rfl, rfl, trivial⟩, rfl⟩
                ((repeat ((conv => whnf); refine ⟨rfl, rfl, ?_⟩)); trivial)
            · ((repeat ((conv => whnf); first | refine brT ?_ | refine brF ?_)); conv => whnf)
              refine ⟨_, _, _, _, concat2_h ss ts b5, rfl, rfl, rfl, rfl, ⟨rfl, flats_prs _, trivial⟩, ?_⟩
              ((repeat ((conv => whnf); first | refine brT ?_ | refine brF ?_)); conv => whnf)
              refine .inr ⟨[.old 0, .old 1, .old 2, .old 3, .old 5, .old 4], ?_, ⟨rfl, rfl, rfl, rfl, rfl, rfl, rfl, rfl, rfl, rfl, rfl, rfl, trivial⟩, rfl⟩
              ((repeat ((conv => whnf); refine ⟨rfl, rfl, ?_⟩)); trivial)
          · ((repeat ((conv => whnf); first | refine brT ?_ | refine brF ?_)); conv => whnf)
            refine ⟨_, _, _, _, concat2_h ss ts b5, rfl, rfl, rfl, rfl, ⟨rfl, flats_prs _, trivial⟩, ?_⟩
            ((repeat ((conv => whnf); first | refine brT ?_ | refine brF ?_)); conv => whnf)
            refine .inr ⟨[.old 0, .old 1, .old 2, .old 4, .old 5, .old 3], ?_, ⟨rfl, rfl, rfl, rfl, rfl, rfl, rfl, rfl, rfl, rfl, rfl, rfl, trivial⟩, rfl⟩
            ((repeat ((conv => whnf); refine ⟨rfl, rfl, ?_⟩)); trivial)
        · ((repeat ((conv => whnf); first | refine brT ?_ | refine brF ?_)); conv => whnf)
          (refine ⟨fun g1 => ?_, fun g1 => ?_⟩ <;> rw [g1])
          · ((repeat ((conv => whnf); first | refine brT ?_ | refine brF ?_)); conv => whnf)
            have hE : egoJ e ss f = f := by rw [egoJ_last, g1]
            refine ⟨rfl, ?_⟩
            ((repeat ((conv => whnf); first | refine brT ?_ | refine brF ?_)); conv => whnf)
            refine ⟨_, isType_impl f (ss ++ ts), ?_⟩
            ((repeat ((conv => whnf); first | refine brT ?_ | refine brF ?_)); conv => whnf)
            (refine ⟨fun g5 => ?_, fun g5 => ?_⟩ <;> rw [g5])
            · rw [joinLV_no (by unfold okJ; rw [hE]; rw [notB_t] at g5; rw [g5]; simp)]
              ((repeat ((conv => whnf); first | refine brT ?_ | refine brF ?_)); conv => whnf)
              exact ⟨_, rfl, rfl, rfl, rfl, by decide, rfl, rfl, List.nodup_nil⟩
            · rw [joinLV_yes (by unfold okJ; rw [hr, hE]; rw [notB_f] at g5; rw [g5]; simp [notB]), hE]
              ((repeat ((conv => whnf); first | refine brT ?_ | refine brF ?_)); conv => whnf)
              exact ⟨_, rfl, rfl, rfl, rfl, rfl, rfl, rfl, rfl, rfl, by simp [exsW]⟩
          · ((repeat ((conv => whnf); first | refine brT ?_ | refine brF ?_)); conv => whnf)
            have hE : egoJ e ss f = e := by rw [egoJ_last, g1]
            refine ⟨rfl, ?_⟩
            ((repeat ((conv => whnf); first | refine brT ?_ | refine brF ?_)); conv => whnf)
            refine ⟨_, isType_impl e (ss ++ ts), ?_⟩
            ((repeat ((conv => whnf); first | refine brT ?_ | refine brF ?_)); conv => whnf)
            (refine ⟨fun g5 => ?_, fun g5 => ?_⟩ <;> rw [g5])
            · rw [joinLV_no (by unfold okJ; rw [hE]; rw [notB_t] at g5; rw [g5]; simp)]
              ((repeat ((conv => whnf); first | refine brT ?_ | refine brF ?_)); conv => whnf)
              exact ⟨_, rfl, rfl, rfl, rfl, by decide, rfl, rfl, List.nodup_nil⟩
            · rw [joinLV_yes (by unfold okJ; rw [hr, hE]; rw [notB_f] at g5; rw [g5]; simp [notB]), hE]
              ((repeat ((conv => whnf); first | refine brT ?_ | refine brF ?_)); conv => whnf)
              exact ⟨_, rfl, rfl, rfl, rfl, rfl, rfl, rfl, rfl, rfl, by simp [exsW]⟩
    · have hr : refJ e ss f ts = false := by unfold refJ; rw [h1, h2, h3]; rfl
      ((repeat ((conv => whnf); first | refine brT ?_ | refine brF ?_)); conv => whnf)
      refine ⟨false, 0, 0, false, [0, 1, 2, 3, 4, 5], (.alt 6 (.alt 7 (.alt 8 (.one 9 (.one 10 .done)) (.one 9 (.one 8 (.one 10 .done)))) (.one 9 (.one 7 (.one 8 (.one 10 .done))))) (.one 9 (.one 6 (.one 7 (.one 8 (.one 10 .done)))))), by kernel_rfl, ?_⟩
      ((repeat ((conv => whnf); first | refine brT ?_ | refine brF ?_)); conv => whnf)
      apply Exists.intro
      apply Exists.intro
      refine And.intro ?_ ?_
      · refine And.intro ?_ ?_
        · ((repeat ((conv => whnf); first | refine brT ?_ | refine brF ?_)); conv => whnf)
          refine And.intro ?_ ?_
          · ((repeat ((conv => whnf); first | refine brT ?_ | refine brF ?_)); conv => whnf)
            refine ⟨_, _, _, _, concat2_h ss ts b5, rfl, rfl, rfl, rfl, ⟨rfl, flats_prs _, trivial⟩, ?_⟩
            ((repeat ((conv => whnf); first | refine brT ?_ | refine brF ?_)); conv => whnf)
            refine And.intro ?_ ?_
            · ((repeat ((conv => whnf); first | refine brT ?_ | refine brF ?_)); conv => whnf)
              refine Weak.idn ?_ ?_ rfl
              · ((repeat ((conv => whnf); refine ⟨rfl, ?_⟩)); trivial)
              · exact ⟨rfl, rfl, rfl, rfl, rfl, rfl, trivial⟩
            · ((repeat ((conv => whnf); first | refine brT ?_ | refine brF ?_)); conv => whnf)
              refine .inr ⟨[.old 0, .old 1, .old 2, .old 3, .old 4, .old 5], ?_, ⟨rfl, rfl, rfl, rfl, rfl, rfl, rfl, rfl, rfl, rfl, rfl, rfl, trivial⟩, rfl⟩
              ((repeat ((conv => whnf); refine ⟨rfl, rfl, ?_⟩)); trivial)
          · ((repeat ((conv => whnf); first | refine brT ?_ | refine brF ?_)); conv => whnf)
            refine ⟨_, _, _, _, concat2_h ss ts b5, rfl, rfl, rfl, rfl, ⟨rfl, flats_prs _, trivial⟩, ?_⟩
            ((repeat ((conv => whnf); first | refine brT ?_ | refine brF ?_)); conv => whnf)
            refine .inr ⟨[.old 0, .old 1, .old 2, .old 3, .old 5, .old 4], ?_, ⟨rfl, rfl, rfl, rfl, rfl, rfl, rfl, rfl, rfl, rfl, rfl, rfl, trivial⟩, rfl⟩
            ((repeat ((conv => whnf); refine ⟨rfl, rfl, ?_⟩)); trivial)
        · ((repeat ((conv => whnf); first | refine brT ?_ | refine brF ?_)); conv => whnf)
          refine ⟨_, _, _, _, concat2_h ss ts b5, rfl, rfl, rfl, rfl, ⟨rfl, flats_prs _, trivial⟩, ?_⟩
          ((repeat ((conv => whnf); first | refine brT ?_ | refine brF ?_)); conv => whnf)
          refine .inr ⟨[.old 0, .old 1, .old 2, .old 4, .old 5, .old 3], ?_, ⟨rfl, rfl, rfl, rfl, rfl, rfl, rfl, rfl, rfl, rfl, rfl, rfl, trivial⟩, rfl⟩
          ((repeat ((conv => whnf); refine ⟨rfl, rfl, ?_⟩)); trivial)
      · ((repeat ((conv => whnf); first | refine brT ?_ | refine brF ?_)); conv => whnf)
        (refine ⟨fun g1 => ?_, fun g1 => ?_⟩ <;> rw [g1])
        · ((repeat ((conv => whnf); first | refine brT ?_ | refine brF ?_)); conv => whnf)
          have hE : egoJ e ss f = f := by rw [egoJ_last, g1]
          refine ⟨rfl, ?_⟩
          ((repeat ((conv => whnf); first | refine brT ?_ | refine brF ?_)); conv => whnf)
          refine ⟨_, isType_impl f (ss ++ ts), ?_⟩
          ((repeat ((conv => whnf); first | refine brT ?_ | refine brF ?_)); conv => whnf)
          (refine ⟨fun g5 => ?_, fun g5 => ?_⟩ <;> rw [g5])
          · rw [joinLV_no (by unfold okJ; rw [hE]; rw [notB_t] at g5; rw [g5]; simp)]
            ((repeat ((conv => whnf); first | refine brT ?_ | refine brF ?_)); conv => whnf)
            exact ⟨_, rfl, rfl, rfl, rfl, by decide, rfl, rfl, List.nodup_nil⟩
          · rw [joinLV_yes (by unfold okJ; rw [hr, hE]; rw [notB_f] at g5; rw [g5]; simp [notB]), hE]
            ((repeat ((conv => whnf); first | refine brT ?_ | refine brF ?_)); conv => whnf)
            exact ⟨_, rfl, rfl, rfl, rfl, rfl, rfl, rfl, rfl, rfl, by simp [exsW]⟩
        · ((repeat ((conv => whnf); first | refine brT ?_ | refine brF ?_)); conv => whnf)
          have hE : egoJ e ss f = e := by rw [egoJ_last, g1]
          refine ⟨rfl, ?_⟩
          ((repeat ((conv => whnf); first | refine brT ?_ | refine brF ?_)); conv => whnf)
          refine ⟨_, isType_impl e (ss ++ ts), ?_⟩
          ((repeat ((conv => whnf); first | refine brT ?_ | refine brF ?_)); conv => whnf)
          (refine ⟨fun g5 => ?_, fun g5 => ?_⟩ <;> rw [g5])
          · rw [joinLV_no (by unfold okJ; rw [hE]; rw [notB_t] at g5; rw [g5]; simp)]
            ((repeat ((conv => whnf); first | refine brT ?_ | refine brF ?_)); conv => whnf)
            exact ⟨_, rfl, rfl, rfl, rfl, by decide, rfl, rfl, List.nodup_nil⟩
          · rw [joinLV_yes (by unfold okJ; rw [hr, hE]; rw [notB_f] at g5; rw [g5]; simp [notB]), hE]
            ((repeat ((conv => whnf); first | refine brT ?_ | refine brF ?_)); conv => whnf)
            exact ⟨_, rfl, rfl, rfl, rfl, rfl, rfl, rfl, rfl, rfl, by simp [exsW]⟩
  · have hr : refJ e ss f ts = false := by unfold refJ; rw [h1, h2, h4]; simp
    ((repeat ((conv => whnf); first | refine brT ?_ | refine brF ?_)); conv => whnf)
    refine ⟨false, 0, 0, false, [0, 1, 2, 3, 4, 5], (.alt 6 (.alt 7 (.alt 8 (.one 9 (.one 10 .done)) (.one 9 (.one 8 (.one 10 .done)))) (.one 9 (.one 7 (.one 8 (.one 10 .done))))) (.one 9 (.one 6 (.one 7 (.one 8 (.one 10 .done)))))), by kernel_rfl, ?_⟩
    ((repeat ((conv => whnf); first | refine brT ?_ | refine brF ?_)); conv => whnf)
    apply Exists.intro
    apply Exists.intro
    refine And.intro ?_ ?_
    · refine And.intro ?_ ?_
      · ((repeat ((conv => whnf); first | refine brT ?_ | refine brF ?_)); conv => whnf)
        refine And.intro ?_ ?_
        · ((repeat ((conv => whnf); first | refine brT ?_ | refine brF ?_)); conv => whnf)
          refine ⟨_, _, _, _, concat2_h ss ts b5, rfl, rfl, rfl, rfl, ⟨rfl, flats_prs _, trivial⟩, ?_⟩
          ((repeat ((conv => whnf); first | refine brT ?_ | refine brF ?_)); conv => whnf)
          refine And.intro ?_ ?_
          · ((repeat ((conv => whnf); first | refine brT ?_ | refine brF ?_)); conv => whnf)
            refine Weak.idn ?_ ?_ rfl
            · ((repeat ((conv => whnf); refine ⟨rfl, ?_⟩)); trivial)
            · exact ⟨rfl, rfl, rfl, rfl, rfl, rfl, trivial⟩
          · ((repeat ((conv => whnf); first | refine brT ?_ | refine brF ?_)); conv => whnf)
            refine .inr ⟨[.old 0, .old 1, .old 2, .old 3, .old 4, .old 5], ?_, ⟨rfl, rfl, rfl, rfl, rfl, rfl, rfl, rfl, rfl, rfl, rfl, rfl, trivial⟩, rfl⟩
            ((repeat ((conv => whnf); refine ⟨rfl, rfl, ?_⟩)); trivial)
        · ((repeat ((conv => whnf); first | refine brT ?_ | refine brF ?_)); conv => whnf)
          refine ⟨_, _, _, _, concat2_h ss ts b5, rfl, rfl, rfl, rfl, ⟨rfl, flats_prs _, trivial⟩, ?_⟩
          ((repeat ((conv => whnf); first | refine brT ?_ | refine brF ?_)); conv => whnf)
          refine .inr ⟨[.old 0, .old 1, .old 2, .old 3, .old 5, .old 4], ?_, ⟨rfl, rfl, rfl, rfl, rfl, rfl, rfl, rfl, rfl, rfl, rfl, rfl, trivial⟩, rfl⟩
          ((repeat ((conv => whnf); refine ⟨rfl, rfl, ?_⟩)); trivial)
      · ((repeat ((conv => whnf); first | refine brT ?_ | refine brF ?_)); conv => whnf)
        refine ⟨_, _, _, _, concat2_h ss ts b5, rfl, rfl, rfl, rfl, ⟨rfl, flats_prs _, trivial⟩, ?_⟩
        ((repeat ((conv => whnf); first | refine brT ?_ | refine brF ?_)); conv => whnf)
        refine .inr ⟨[.old 0, .old 1, .old 2, .old 4, .old 5, .old 3], ?_, ⟨rfl, rfl, rfl, rfl, rfl, rfl, rfl, rfl, rfl, rfl, rfl, rfl, trivial⟩, rfl⟩
        ((repeat ((conv => whnf); refine ⟨rfl, rfl, ?_⟩)); trivial)
    · ((repeat ((conv => whnf); first | refine brT ?_ | refine brF ?_)); conv => whnf)
      (refine ⟨fun g1 => ?_, fun g1 => ?_⟩ <;> rw [g1])
      · ((repeat ((conv => whnf); first | refine brT ?_ | refine brF ?_)); conv => whnf)
        have hE : egoJ e ss f = f := by rw [egoJ_last, g1]
        refine ⟨rfl, ?_⟩
        ((repeat ((conv => whnf); first | refine brT ?_ | refine brF ?_)); conv => whnf)
        refine ⟨_, isType_impl f (ss ++ ts), ?_⟩
        ((repeat ((conv => whnf); first | refine brT ?_ | refine brF ?_)); conv => whnf)
        (refine ⟨fun g5 => ?_, fun g5 => ?_⟩ <;> rw [g5])
        · rw [joinLV_no (by unfold okJ; rw [hE]; rw [notB_t] at g5; rw [g5]; simp)]
          ((repeat ((conv => whnf); first | refine brT ?_ | refine brF ?_)); conv => whnf)
          exact ⟨_, rfl, rfl, rfl, rfl, by decide, rfl, rfl, List.nodup_nil⟩
        · rw [joinLV_yes (by unfold okJ; rw [hr, hE]; rw [notB_f] at g5; rw [g5]; simp [notB]), hE]
          ((repeat ((conv => whnf); first | refine brT ?_ | refine brF ?_)); conv => whnf)
          exact ⟨_, rfl, rfl, rfl, rfl, rfl, rfl, rfl, rfl, rfl, by simp [exsW]⟩
      · ((repeat ((conv => whnf); first | refine brT ?_ | refine brF ?_)); conv => whnf)
        have hE : egoJ e ss f = e := by rw [egoJ_last, g1]
        refine ⟨rfl, ?_⟩
        ((repeat ((conv => whnf); first | refine brT ?_ | refine brF ?_)); conv => whnf)
        refine ⟨_, isType_impl e (ss ++ ts), ?_⟩
        ((repeat ((conv => whnf); first | refine brT ?_ | refine brF ?_)); conv => whnf)
        (refine ⟨fun g5 => ?_, fun g5 => ?_⟩ <;> rw [g5])
        · rw [joinLV_no (by unfold okJ; rw [hE]; rw [notB_t] at g5; rw [g5]; simp)]
          ((repeat ((conv => whnf); first | refine brT ?_ | refine brF ?_)); conv => whnf)
          exact ⟨_, rfl, rfl, rfl, rfl, by decide, rfl, rfl, List.nodup_nil⟩
        · rw [joinLV_yes (by unfold okJ; rw [hr, hE]; rw [notB_f] at g5; rw [g5]; simp [notB]), hE]
          ((repeat ((conv => whnf); first | refine brT ?_ | refine brF ?_)); conv => whnf)
          exact ⟨_, rfl, rfl, rfl, rfl, rfl, rfl, rfl, rfl, rfl, by simp [exsW]⟩
end Go.Proofs.Ytfoecpjebbgegaa

namespace Go.Proofs.Ytfoecpjebbgegaa
open Go.Lg
set_option maxHeartbeats 1600000
set_option maxRecDepth 10000
set_option linter.unusedVariables false
set_option linter.unusedSimpArgs false

theorem law_joinTypes (e : Int) (ss : List Pr) (f : Int) (ts : List Pr) (h1 : ss.length ≤ Go.maxLen) (h2 : ts.length ≤ Go.maxLen) : FSpec env.P 10 [typLV e ss, typLV f ts] (.bool true) := by
  refine FSpec_of_code (E := env.x [51, 38, 32] 0) env_ok.x (fn := Try.f10) Try.func10 rfl Try.call10 _ _ ?_
  ((repeat ((conv => whnf); first | refine brT ?_ | refine brF ?_)); conv => whnf)
  refine ⟨_, szKinType_spec e ss 1048576, ?_⟩
  by_cases k1 : 0 ≤ szT 1048576 ss.length
  rotate_left
  · ((repeat ((conv => whnf); first | refine brT ?_ | refine brF ?_)); conv => whnf)
    rw [show ltI (szT 1048576 ss.length) 0 = true by rw [ltI_t]; omega]
    ((repeat ((conv => whnf); first | refine brT ?_ | refine brF ?_)); conv => whnf)
    exact fin rfl
  obtain ⟨n1, m1, hf1, b1, -⟩ := szT_ok (by omega) (by omega) h1 k1
  ((repeat ((conv => whnf); first | refine brT ?_ | refine brF ?_)); conv => whnf)
  rw [hf1]
  ((repeat ((conv => whnf); first | refine brT ?_ | refine brF ?_)); conv => whnf)
  refine ⟨_, szKinType_spec f ts (szT 1048576 ss.length), ?_⟩
  by_cases k2 : 0 ≤ szT (szT 1048576 ss.length) ts.length
  rotate_left
  · ((repeat ((conv => whnf); first | refine brT ?_ | refine brF ?_)); conv => whnf)
    rw [show ltI (szT (szT 1048576 ss.length) ts.length) 0 = true by rw [ltI_t]; omega]
    ((repeat ((conv => whnf); first | refine brT ?_ | refine brF ?_)); conv => whnf)
    exact fin rfl
  obtain ⟨n2, m2, hf2, b2, -⟩ := szT_ok k1 (by omega) h2 k2
  have hl : ss.length + ts.length ≤ 1048576 := by omega
  ((repeat ((conv => whnf); first | refine brT ?_ | refine brF ?_)); conv => whnf)
  rw [hf2]
  ((repeat ((conv => whnf); first | refine brT ?_ | refine brF ?_)); conv => whnf)
  have hS := join_spec e ss f ts hl
  have hI := join_impl e ss f ts hl
  have hF := join_impl_f e ss f ts hl
  have hLL : (joinL e ss f ts).length ≤ ss.length + ts.length := by unfold joinL; split <;> simp
  unfold joinLV at hS hF
  unfold joinHS at hI
  generalize joinE e ss f ts = E1 at hS hI hF
  generalize joinL e ss f ts = L1 at hS hI hF hLL
  generalize okJ e ss f ts = bb at hS hI hF
  have hm : (L1.map Pr.lv).length = ((markPrs 1 L1.length).map Pr.lv).length := by simp [markPrs_len]
  refine ⟨true, by kernel_rfl, ?_⟩
  ((repeat ((conv => whnf); first | refine brT ?_ | refine brF ?_)); conv => whnf)
  refine ⟨_, toKinType_f e ss b1, ?_⟩
  ((repeat ((conv => whnf); first | refine brT ?_ | refine brF ?_)); conv => whnf)
  refine ⟨_, toKinType_f f ts b2, ?_⟩
  ((repeat ((conv => whnf); first | refine brT ?_ | refine brF ?_)); conv => whnf)
  refine ⟨_, hS, ?_⟩
  ((repeat ((conv => whnf); first | refine brT ?_ | refine brF ?_)); conv => whnf)
  refine ⟨[], _, _, _, _, toKinType_h e ss b1, rfl, rfl, rfl, trivial, ?_⟩
  ((repeat ((conv => whnf); first | refine brT ?_ | refine brF ?_)); conv => whnf)
  refine ⟨[], _, _, _, _, toKinType_h f ts b2, rfl, rfl, rfl, trivial, ?_⟩
  ((repeat ((conv => whnf); first | refine brT ?_ | refine brF ?_)); conv => whnf)
  refine ⟨[], _, _, _, _, hI, rfl, ?_⟩
  ((repeat ((conv => whnf); first | refine brT ?_ | refine brF ?_)); conv => whnf)
  refine ⟨rfl, ?_⟩
  ((repeat ((conv => whnf); first | refine brT ?_ | refine brF ?_)); conv => whnf)
  refine ⟨rfl, ?_⟩
  ((repeat ((conv => whnf); first | refine brT ?_ | refine brF ?_)); conv => whnf)
  refine ⟨rfl, rfl, ⟨rfl, flats_prs _, trivial⟩, ?_⟩
  ((repeat ((conv => whnf); first | refine brT ?_ | refine brF ?_)); conv => whnf)
  refine ⟨rfl, ?_⟩
  ((repeat ((conv => whnf); first | refine brT ?_ | refine brF ?_)); conv => whnf)
  refine ⟨_, eqKinType_spec E1 L1 E1 L1, ?_⟩
  rw [eqTyp_refl]
  ((repeat ((conv => whnf); first | refine brT ?_ | refine brF ?_)); conv => whnf)
  rw [show notB true = false by simp [notB]]
  ((repeat ((conv => whnf); first | refine brT ?_ | refine brF ?_)); conv => whnf)
  rw [eqB_refl, show notB true = false by simp [notB]]
  ((repeat ((conv => whnf); first | refine brT ?_ | refine brF ?_)); conv => whnf)
  refine ⟨true, by kernel_rfl, ?_⟩
  ((repeat ((conv => whnf); first | refine brT ?_ | refine brF ?_)); conv => whnf)
  refine ⟨_, toKinType_f e ss b1, ?_⟩
  ((repeat ((conv => whnf); first | refine brT ?_ | refine brF ?_)); conv => whnf)
  refine ⟨rfl, ?_⟩
  ((repeat ((conv => whnf); first | refine brT ?_ | refine brF ?_)); conv => whnf)
  refine ⟨_, eqKinType_spec e ss e ss, ?_⟩
  rw [eqTyp_refl]
  ((repeat ((conv => whnf); first | refine brT ?_ | refine brF ?_)); conv => whnf)
  rw [show notB true = false by simp [notB]]
  ((repeat ((conv => whnf); first | refine brT ?_ | refine brF ?_)); conv => whnf)
  refine ⟨true, by kernel_rfl, ?_⟩
  ((repeat ((conv => whnf); first | refine brT ?_ | refine brF ?_)); conv => whnf)
  refine ⟨_, toKinType_f f ts b2, ?_⟩
  ((repeat ((conv => whnf); first | refine brT ?_ | refine brF ?_)); conv => whnf)
  refine ⟨rfl, ?_⟩
  ((repeat ((conv => whnf); first | refine brT ?_ | refine brF ?_)); conv => whnf)
  refine ⟨_, eqKinType_spec f ts f ts, ?_⟩
  rw [eqTyp_refl]
  ((repeat ((conv => whnf); first | refine brT ?_ | refine brF ?_)); conv => whnf)
  rw [show notB true = false by simp [notB]]
  ((repeat ((conv => whnf); first | refine brT ?_ | refine brF ?_)); conv => whnf)
  refine ⟨[3], _, _, _, _, markKinType_spec e ss _ rfl 1 (by omega), rfl, rfl, rfl, trivial, ?_⟩
  ((repeat ((conv => whnf); first | refine brT ?_ | refine brF ?_)); conv => whnf)
  refine ⟨[5], _, _, _, _, markKinType_spec f ts _ rfl (1 + 2 * ss.length) (by omega), rfl, rfl, rfl, trivial, ?_⟩
  ((repeat ((conv => whnf); first | refine brT ?_ | refine brF ?_)); conv => whnf)
  rw [show ltI ((1 + 2 * ss.length + 2 * ts.length : Nat) : Int) 0 = false by rw [ltI_f]; omega]
  ((repeat ((conv => whnf); first | refine brT ?_ | refine brF ?_)); conv => whnf)
  refine ⟨rfl, ?_⟩
  ((repeat ((conv => whnf); first | refine brT ?_ | refine brF ?_)); conv => whnf)
  refine ⟨_, eqKinType_spec E1 L1 E1 L1, ?_⟩
  rw [eqTyp_refl]
  ((repeat ((conv => whnf); first | refine brT ?_ | refine brF ?_)); conv => whnf)
  rw [show notB true = false by simp [notB]]
  ((repeat ((conv => whnf); first | refine brT ?_ | refine brF ?_)); conv => whnf)
  rw [eqB_refl, show notB true = false by simp [notB]]
  ((repeat ((conv => whnf); first | refine brT ?_ | refine brF ?_)); conv => whnf)
  refine ⟨[7], _, _, _, _, markKinType_spec E1 L1 _ rfl 1 (by omega), rfl, rfl, rfl, trivial, ?_⟩
  ((repeat ((conv => whnf); first | refine brT ?_ | refine brF ?_)); conv => whnf)
  refine ⟨hm, ?_⟩
  ((repeat ((conv => whnf); first | refine brT ?_ | refine brF ?_)); conv => whnf)
  refine ⟨_, heldKinType_spec E1 1 L1.length (by omega), ?_⟩
  ((repeat ((conv => whnf); first | refine brT ?_ | refine brF ?_)); conv => whnf)
  rw [show ltI ((1 + 2 * L1.length : Nat) : Int) 0 = false by rw [ltI_f]; omega]
  ((repeat ((conv => whnf); first | refine brT ?_ | refine brF ?_)); conv => whnf)
  rw [eqI_refl, show notB true = false by simp [notB]]
  ((repeat ((conv => whnf); first | refine brT ?_ | refine brF ?_)); conv => whnf)
  refine ⟨true, by kernel_rfl, ?_⟩
  ((repeat ((conv => whnf); first | refine brT ?_ | refine brF ?_)); conv => whnf)
  refine ⟨_, toKinType_f e ss b1, ?_⟩
  ((repeat ((conv => whnf); first | refine brT ?_ | refine brF ?_)); conv => whnf)
  refine ⟨_, toKinType_f f ts b2, ?_⟩
  ((repeat ((conv => whnf); first | refine brT ?_ | refine brF ?_)); conv => whnf)
  refine ⟨_, hF, ?_⟩
  ((repeat ((conv => whnf); first | refine brT ?_ | refine brF ?_)); conv => whnf)
  refine ⟨_, eqKinType_spec E1 L1 E1 L1, ?_⟩
  rw [eqTyp_refl]
  ((repeat ((conv => whnf); first | refine brT ?_ | refine brF ?_)); conv => whnf)
  rw [show notB true = false by simp [notB]]
  ((repeat ((conv => whnf); first | refine brT ?_ | refine brF ?_)); conv => whnf)
  rw [eqB_refl, show notB true = false by simp [notB]]
  ((repeat ((conv => whnf); first | refine brT ?_ | refine brF ?_)); conv => whnf)
  refine ⟨hm, ?_⟩
  ((repeat ((conv => whnf); first | refine brT ?_ | refine brF ?_)); conv => whnf)
  refine ⟨_, heldKinType_spec E1 1 L1.length (by omega), ?_⟩
  ((repeat ((conv => whnf); first | refine brT ?_ | refine brF ?_)); conv => whnf)
  rw [show ltI ((1 + 2 * L1.length : Nat) : Int) 0 = false by rw [ltI_f]; omega]
  ((repeat ((conv => whnf); first | refine brT ?_ | refine brF ?_)); conv => whnf)
  rw [eqI_refl, show notB true = false by simp [notB]]
  ((repeat ((conv => whnf); first | refine brT ?_ | refine brF ?_)); conv => whnf)
  exact fin rfl
end Go.Proofs.Ytfoecpjebbgegaa
