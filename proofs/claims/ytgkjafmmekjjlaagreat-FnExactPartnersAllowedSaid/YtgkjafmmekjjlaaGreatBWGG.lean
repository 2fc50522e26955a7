/- Contracts of functions of the program and of its model, told over readings. -/
import Derived.Test.YtgkjafmmekjjlaaGreatBWGF
import Derived.Test.YtgkjafmmekjjlaaGreatBLgCU
import Derived.Test.YtgkjafmmekjjlaaGreatBWGD
namespace Go.Proofs.YtgkjafmmekjjlaaGreat
open Go.Lg Go.Pm
set_option maxHeartbeats 3200000
set_option maxRecDepth 10000
set_option linter.unusedVariables false
set_option linter.unusedSimpArgs false

theorem bars9_spec (ps : List Per) (us : List Uni) (ld lc la lg lw lh : Int) (lp lm : Bool) (a b : Nat) (y : Int) (x z : Per) (m1 m2 up1 up2 f1 f2 f3 f4 cn : Int) (ok C7 B12 a1 a2 : Bool)
    (hx : (ps.map Per.lv)[a]? = some x.lv) (hz : (ps.map Per.lv)[b]? = some z.lv) (U1 U2 R1 R2 : List Int)
    (hm1 : FSpec env.P 78 [famLV ps us, .int .i64 (a : Int), .int .i64 y] (rowOw R1)) (hm2 : FSpec env.P 78 [famLV ps us, .int .i64 (b : Int), .int .i64 y] (rowOw R2))
    (hu1 : FSpec env.P 79 [famLV ps us, .int .i64 (a : Int)] (rowOw U1)) (hu2 : FSpec env.P 79 [famLV ps us, .int .i64 (b : Int)] (rowOw U2))
    (hg1 : (U1.map intLV)[b]? = some (intLV up1)) (hg2 : (U2.map intLV)[a]? = some (intLV up2))
    (hc7 : FSpec env.P 80 [famLV ps us, .int .i64 (a : Int), .int .i64 (b : Int), .int .i64 ld] (.bool C7))
    (hcn : FSpec env.P 81 [famLV ps us, .int .i64 (a : Int), .int .i64 (b : Int)] (.tup [.int .i64 cn, .bool ok]))
    (hf1 : FSpec env.P 82 [famLV ps us, .int .i64 (a : Int), .int .i64 1] (.int .i64 f1)) (hf2 : FSpec env.P 82 [famLV ps us, .int .i64 (b : Int), .int .i64 1] (.int .i64 f2))
    (hf3 : FSpec env.P 82 [famLV ps us, .int .i64 (a : Int), .int .i64 2] (.int .i64 f3)) (hf4 : FSpec env.P 82 [famLV ps us, .int .i64 (b : Int), .int .i64 2] (.int .i64 f4))
    (ha1 : FSpec env.P 83 [famLV ps us, .int .i64 (a : Int), .int .i64 (b : Int), .int .i64 y, .int .i64 la] (.bool a1)) (ha2 : FSpec env.P 83 [famLV ps us, .int .i64 (b : Int), .int .i64 (a : Int), .int .i64 y, .int .i64 la] (.bool a2))
    (hul : us.length ≤ 60) (e12 : B12 = us.any fun u => otherB (a : Int) u && eqI (otherV (a : Int) u) (b : Int))
    {B1 B2 B3 B4 B5 B6 B7 B8 B9 B10 B11 : Bool}
    (e1 : B1 = (notB (eqI x.sex 1) || notB (eqI z.sex 2))) (e2 : B2 = (outL y x || outL y z)) (e3 : B3 = (ltI y (IntKind.i64.wrap (x.born + lg)) || ltI y (IntKind.i64.wrap (z.born + lg))))
    (e4 : B4 = leI lw (R1.length : Int)) (e5 : B5 = leI lh (R2.length : Int)) (e6 : B6 = (leI 0 up1 || leI 0 up2)) (e7 : B7 = (notB (eqI ld 0) && C7)) (e8 : B8 = (notB (eqI lc 0) && (ok && leI cn lc)))
    (e9 : B9 = (lp && eqI f1 f2)) (e10 : B10 = (lm && eqI f3 f4)) (e11 : B11 = (notB (eqI la 0) && (a1 || a2))) :
    FSpec env.P 45 [famLV ps us, .st [.int .i64 ld, .int .i64 lc, .int .i64 la, .int .i64 lg, .int .i64 lw, .int .i64 lh, .bool lp, .bool lm], .int .i64 (a : Int), .int .i64 (b : Int), .int .i64 y] (.own 4 1 ([false, B1, B2, B3, B4, B5, B6, B7, B8, B9, B10, B11, B12].map bLV)) := by
  have hP : (ps.map Per.lv).length = ps.length := List.length_map ..
  have hR1 : ((R1.map intLV).length : Int) = (R1.length : Int) := by simp
  have hR2 : ((R2.map intLV).length : Int) = (R2.length : Int) := by simp
  refine FSpec_of_cuts [false, false, false, true, true, true, true, true, true, true, true, true, true, true, true, true] env_ok (fn := Tryz.f45) Tryz.func45 rfl Tryz.call45 _ _ ?_
  ((repeat ((conv => whnf); first | refine brT ?_ | refine brF ?_)); conv => whnf)
  refine ⟨a, _, rfl, hx, rfl, ?_⟩
  ((repeat ((conv => whnf); first | refine brT ?_ | refine brF ?_)); conv => whnf)
  refine ⟨b, _, rfl, hz, rfl, ?_⟩
  ((repeat ((conv => whnf); first | refine brT ?_ | refine brF ?_)); conv => whnf)
  refine ⟨[.st [.sl (ps.map Per.lv), .sl (us.map Uni.lv)], .st [.int .i64 ld, .int .i64 lc, .int .i64 la, .int .i64 lg, .int .i64 lw, .int .i64 lh, .bool lp, .bool lm], .int .i64 (a : Int), .int .i64 (b : Int), .int .i64 y, .hp 0 0 [], .hp 1 0 [], .undef, .undef, .undef, .undef, .hp 2 0 [], .hp 3 0 [], .hs 4 13, .undef, .undef, .undef, .undef, .undef, .undef, .undef, .undef, .undef, .undef, .undef, .undef, .undef, .undef, .undef, .undef, .undef, .undef, .undef, .undef, .undef, .undef, .undef, .undef, .undef, .undef, .undef, .undef, .undef, .undef, .undef, .undef, .undef, .undef, .undef, .undef, .undef, .undef, .undef, .undef, .undef, .undef, .undef, .undef, .undef, .undef, .undef, .undef, .undef, .undef, .undef, .undef, .undef, .undef, .undef, .undef, .undef, .undef, .undef, .undef, .undef, .undef, .undef, .undef, .undef, .undef, .undef, .undef, .undef, .undef, .undef, .undef, .undef, .undef, .undef, .undef, .undef, .undef, .undef, .undef, .undef, .undef, .undef, .undef, .undef, .undef, .undef, .undef, .undef, .undef, .undef, .undef, .undef, .undef, .undef, .undef, .undef, .undef, .undef, .undef, .undef, .undef, .undef, .undef, .undef, .undef, .undef, .undef, .undef, .undef, .undef, .undef, .undef, .undef, .undef, .undef, .undef, .undef, .undef, .undef, .undef, .undef, .undef, .undef, .undef, .undef, .undef, .undef, .undef, .undef, .undef, .undef, .undef, .undef, .undef, .undef, .undef, .undef, .undef, .undef, .undef, .undef, .undef, .undef, .undef, .undef, .undef, .undef, .undef, .undef, .undef, .undef, .undef, .undef, .undef, .undef, .undef, .undef, .undef, .undef, .undef, .undef, .undef, .undef, .undef, .undef, .undef, .undef, .undef, .undef, .undef, .undef, .undef, .undef, .undef, .undef, .undef, .undef, .undef, .undef, .undef, .undef, .undef, .undef, .undef, .undef, .undef, .undef, .undef, .undef, .undef, .undef, .undef, .undef, .undef, .undef, .undef, .undef, .undef, .undef, .undef, .undef, .undef, .undef], [.box (.st [.sl (ps.map Per.lv), .sl (us.map Uni.lv)]), .box (.st [.int .i64 ld, .int .i64 lc, .int .i64 la, .int .i64 lg, .int .i64 lw, .int .i64 lh, .bool lp, .bool lm]), .box x.lv, .box z.lv, .arr 4 1 [.bool false, .bool false, .bool false, .bool false, .bool false, .bool false, .bool false, .bool false, .bool false, .bool false, .bool false, .bool false, .bool false]], ?_, ?_⟩
  · ((repeat ((conv => whnf); first | refine brT ?_ | refine brF ?_)); conv => whnf)
    refine ⟨13, by decide, by decide, by decide, by decide, rfl, by decide, ?_⟩
    ((repeat ((conv => whnf); first | refine brT ?_ | refine brF ?_)); conv => whnf)
    refine .inr ⟨[.old 0, .old 1, .old 2, .old 3, .old 4], ?_, ⟨rfl, rfl, rfl, rfl, rfl, rfl, rfl, rfl, rfl, rfl, trivial⟩, rfl⟩
    ((repeat ((conv => whnf); refine ⟨rfl, rfl, ?_⟩)); trivial)
  ((repeat ((conv => whnf); first | refine brT ?_ | refine brF ?_)); conv => whnf)
  refine ⟨[.st [.sl (ps.map Per.lv), .sl (us.map Uni.lv)], .st [.int .i64 ld, .int .i64 lc, .int .i64 la, .int .i64 lg, .int .i64 lw, .int .i64 lh, .bool lp, .bool lm], .int .i64 (a : Int), .int .i64 (b : Int), .int .i64 y, .hp 0 0 [], .hp 1 0 [], .undef, .undef, .undef, .undef, .hp 2 0 [], .hp 3 0 [], .hs 4 13, .undef, .undef, .undef, .undef, .undef, .undef, .undef, .undef, .undef, .undef, .undef, .undef, .undef, .undef, .undef, .undef, .undef, .undef, .undef, .undef, .undef, .undef, .undef, .undef, .undef, .undef, .undef, .undef, .undef, .undef, .undef, .undef, .undef, .undef, .undef, .undef, .undef, .undef, .undef, .undef, .undef, .undef, .undef, .undef, .undef, .undef, .undef, .undef, .undef, .undef, .undef, .undef, .undef, .undef, .undef, .undef, .undef, .undef, .undef, .undef, .undef, .undef, .undef, .undef, .undef, .undef, .undef, .undef, .undef, .undef, .undef, .undef, .undef, .undef, .undef, .undef, .undef, .undef, .undef, .undef, .undef, .undef, .undef, .undef, .undef, .undef, .undef, .undef, .undef, .undef, .undef, .undef, .undef, .undef, .undef, .undef, .undef, .undef, .undef, .undef, .undef, .undef, .undef, .undef, .undef, .undef, .undef, .undef, .undef, .undef, .undef, .undef, .undef, .undef, .undef, .undef, .undef, .undef, .undef, .undef, .undef, .undef, .undef, .undef, .undef, .undef, .undef, .undef, .undef, .undef, .undef, .undef, .undef, .undef, .undef, .undef, .undef, .undef, .undef, .undef, .undef, .undef, .undef, .undef, .undef, .undef, .undef, .undef, .undef, .undef, .undef, .undef, .undef, .undef, .undef, .undef, .undef, .undef, .undef, .undef, .undef, .undef, .undef, .undef, .undef, .undef, .undef, .undef, .undef, .undef, .undef, .undef, .undef, .undef, .undef, .undef, .undef, .undef, .undef, .undef, .undef, .undef, .undef, .undef, .undef, .undef, .undef, .undef, .undef, .undef, .undef, .undef, .undef, .undef, .undef, .undef, .undef, .undef, .undef, .undef, .undef, .undef, .undef, .undef], [.box (.st [.sl (ps.map Per.lv), .sl (us.map Uni.lv)]), .box (.st [.int .i64 ld, .int .i64 lc, .int .i64 la, .int .i64 lg, .int .i64 lw, .int .i64 lh, .bool lp, .bool lm]), .box x.lv, .box z.lv, .arr 4 1 [.bool false, .bool B1, .bool false, .bool false, .bool false, .bool false, .bool false, .bool false, .bool false, .bool false, .bool false, .bool false, .bool false]], ?_, ?_⟩
  · subst e1
    ((repeat ((conv => whnf); first | refine brT ?_ | refine brF ?_)); conv => whnf)
    (refine ⟨fun h => ?_, fun h => ?_⟩ <;> rw [h])
    · ((repeat ((conv => whnf); first | refine brT ?_ | refine brF ?_)); conv => whnf)
      refine ⟨rfl, rfl, 1, rfl, show 1 < 13 by omega, ?_⟩
      ((repeat ((conv => whnf); first | refine brT ?_ | refine brF ?_)); conv => whnf)
      refine ⟨rfl, 1, [], .bool false, rfl, rfl, rfl, rfl, rfl, _, rfl, ?_⟩
      ((repeat ((conv => whnf); first | refine brT ?_ | refine brF ?_)); conv => whnf)
      refine .inr ⟨[.old 0, .old 1, .old 2, .old 3, .old 4], ?_, ⟨rfl, rfl, rfl, rfl, rfl, rfl, rfl, rfl, rfl, rfl, trivial⟩, rfl⟩
      ((repeat ((conv => whnf); refine ⟨rfl, rfl, ?_⟩)); trivial)
    · ((repeat ((conv => whnf); first | refine brT ?_ | refine brF ?_)); conv => whnf)
      refine ⟨rfl, rfl, 1, rfl, show 1 < 13 by omega, ?_⟩
      ((repeat ((conv => whnf); first | refine brT ?_ | refine brF ?_)); conv => whnf)
      refine ⟨rfl, 1, [], .bool false, rfl, rfl, rfl, rfl, rfl, _, rfl, ?_⟩
      ((repeat ((conv => whnf); first | refine brT ?_ | refine brF ?_)); conv => whnf)
      refine .inr ⟨[.old 0, .old 1, .old 2, .old 3, .old 4], ?_, ⟨rfl, rfl, rfl, rfl, rfl, rfl, rfl, rfl, rfl, rfl, trivial⟩, rfl⟩
      ((repeat ((conv => whnf); refine ⟨rfl, rfl, ?_⟩)); trivial)
  ((repeat ((conv => whnf); first | refine brT ?_ | refine brF ?_)); conv => whnf)
  refine ⟨[.st [.sl (ps.map Per.lv), .sl (us.map Uni.lv)], .st [.int .i64 ld, .int .i64 lc, .int .i64 la, .int .i64 lg, .int .i64 lw, .int .i64 lh, .bool lp, .bool lm], .int .i64 (a : Int), .int .i64 (b : Int), .int .i64 y, .hp 0 0 [], .hp 1 0 [], .undef, .undef, .undef, .undef, .hp 2 0 [], .hp 3 0 [], .hs 4 13, .undef, .undef, .undef, .undef, .undef, .undef, .undef, .undef, .undef, .undef, .undef, .undef, .undef, .undef, .undef, .undef, .undef, .undef, .undef, .undef, .undef, .undef, .undef, .undef, .undef, .undef, .undef, .undef, .undef, .undef, .undef, .undef, .undef, .undef, .undef, .undef, .undef, .undef, .undef, .undef, .undef, .undef, .undef, .undef, .undef, .undef, .undef, .undef, .undef, .undef, .undef, .undef, .undef, .undef, .undef, .undef, .undef, .undef, .undef, .undef, .undef, .undef, .undef, .undef, .undef, .undef, .undef, .undef, .undef, .undef, .undef, .undef, .undef, .undef, .undef, .undef, .undef, .undef, .undef, .undef, .undef, .undef, .undef, .undef, .undef, .undef, .undef, .undef, .undef, .undef, .undef, .undef, .undef, .undef, .undef, .undef, .undef, .undef, .undef, .undef, .undef, .undef, .undef, .undef, .undef, .undef, .undef, .undef, .undef, .undef, .undef, .undef, .undef, .undef, .undef, .undef, .undef, .undef, .undef, .undef, .undef, .undef, .undef, .undef, .undef, .undef, .undef, .undef, .undef, .undef, .undef, .undef, .undef, .undef, .undef, .undef, .undef, .undef, .undef, .undef, .undef, .undef, .undef, .undef, .undef, .undef, .undef, .undef, .undef, .undef, .undef, .undef, .undef, .undef, .undef, .undef, .undef, .undef, .undef, .undef, .undef, .undef, .undef, .undef, .undef, .undef, .undef, .undef, .undef, .undef, .undef, .undef, .undef, .undef, .undef, .undef, .undef, .undef, .undef, .undef, .undef, .undef, .undef, .undef, .undef, .undef, .undef, .undef, .undef, .undef, .undef, .undef, .undef, .undef, .undef, .undef, .undef, .undef, .undef, .undef, .undef, .undef, .undef, .undef], [.box (.st [.sl (ps.map Per.lv), .sl (us.map Uni.lv)]), .box (.st [.int .i64 ld, .int .i64 lc, .int .i64 la, .int .i64 lg, .int .i64 lw, .int .i64 lh, .bool lp, .bool lm]), .box x.lv, .box z.lv, .arr 4 1 [.bool false, .bool B1, .bool B2, .bool false, .bool false, .bool false, .bool false, .bool false, .bool false, .bool false, .bool false, .bool false, .bool false]], ?_, ?_⟩
  · subst e2
    ((repeat ((conv => whnf); first | refine brT ?_ | refine brF ?_)); conv => whnf)
    refine ⟨_, life_spec x y, ?_⟩
    ((repeat ((conv => whnf); first | refine brT ?_ | refine brF ?_)); conv => whnf)
    (refine ⟨fun h => ?_, fun h => ?_⟩ <;> rw [h])
    · ((repeat ((conv => whnf); first | refine brT ?_ | refine brF ?_)); conv => whnf)
      refine ⟨rfl, rfl, 2, rfl, show 2 < 13 by omega, ?_⟩
      ((repeat ((conv => whnf); first | refine brT ?_ | refine brF ?_)); conv => whnf)
      refine ⟨rfl, 2, [], .bool false, rfl, rfl, rfl, rfl, rfl, _, rfl, ?_⟩
      ((repeat ((conv => whnf); first | refine brT ?_ | refine brF ?_)); conv => whnf)
      refine .inr ⟨[.old 0, .old 1, .old 2, .old 3, .old 4], ?_, ⟨rfl, rfl, rfl, rfl, rfl, rfl, rfl, rfl, rfl, rfl, trivial⟩, rfl⟩
      ((repeat ((conv => whnf); refine ⟨rfl, rfl, ?_⟩)); trivial)
    · ((repeat ((conv => whnf); first | refine brT ?_ | refine brF ?_)); conv => whnf)
      refine ⟨_, life_spec z y, ?_⟩
      ((repeat ((conv => whnf); first | refine brT ?_ | refine brF ?_)); conv => whnf)
      refine ⟨rfl, rfl, 2, rfl, show 2 < 13 by omega, ?_⟩
      ((repeat ((conv => whnf); first | refine brT ?_ | refine brF ?_)); conv => whnf)
      refine ⟨rfl, 2, [], .bool false, rfl, rfl, rfl, rfl, rfl, _, rfl, ?_⟩
      ((repeat ((conv => whnf); first | refine brT ?_ | refine brF ?_)); conv => whnf)
      refine .inr ⟨[.old 0, .old 1, .old 2, .old 3, .old 4], ?_, ⟨rfl, rfl, rfl, rfl, rfl, rfl, rfl, rfl, rfl, rfl, trivial⟩, rfl⟩
      ((repeat ((conv => whnf); refine ⟨rfl, rfl, ?_⟩)); trivial)
  ((repeat ((conv => whnf); first | refine brT ?_ | refine brF ?_)); conv => whnf)
  refine ⟨[.st [.sl (ps.map Per.lv), .sl (us.map Uni.lv)], .st [.int .i64 ld, .int .i64 lc, .int .i64 la, .int .i64 lg, .int .i64 lw, .int .i64 lh, .bool lp, .bool lm], .int .i64 (a : Int), .int .i64 (b : Int), .int .i64 y, .hp 0 0 [], .hp 1 0 [], .undef, .undef, .undef, .undef, .hp 2 0 [], .hp 3 0 [], .hs 4 13, .undef, .undef, .undef, .undef, .undef, .undef, .undef, .undef, .undef, .undef, .undef, .undef, .undef, .undef, .undef, .undef, .undef, .undef, .undef, .undef, .undef, .undef, .undef, .undef, .undef, .undef, .undef, .undef, .undef, .undef, .undef, .undef, .undef, .undef, .undef, .undef, .undef, .undef, .undef, .undef, .undef, .undef, .undef, .undef, .undef, .undef, .undef, .undef, .undef, .undef, .undef, .undef, .undef, .undef, .undef, .undef, .undef, .undef, .undef, .undef, .undef, .undef, .undef, .undef, .undef, .undef, .undef, .undef, .undef, .undef, .undef, .undef, .undef, .undef, .undef, .undef, .undef, .undef, .undef, .undef, .undef, .undef, .undef, .undef, .undef, .undef, .undef, .undef, .undef, .undef, .undef, .undef, .undef, .undef, .undef, .undef, .undef, .undef, .undef, .undef, .undef, .undef, .undef, .undef, .undef, .undef, .undef, .undef, .undef, .undef, .undef, .undef, .undef, .undef, .undef, .undef, .undef, .undef, .undef, .undef, .undef, .undef, .undef, .undef, .undef, .undef, .undef, .undef, .undef, .undef, .undef, .undef, .undef, .undef, .undef, .undef, .undef, .undef, .undef, .undef, .undef, .undef, .undef, .undef, .undef, .undef, .undef, .undef, .undef, .undef, .undef, .undef, .undef, .undef, .undef, .undef, .undef, .undef, .undef, .undef, .undef, .undef, .undef, .undef, .undef, .undef, .undef, .undef, .undef, .undef, .undef, .undef, .undef, .undef, .undef, .undef, .undef, .undef, .undef, .undef, .undef, .undef, .undef, .undef, .undef, .undef, .undef, .undef, .undef, .undef, .undef, .undef, .undef, .undef, .undef, .undef, .undef, .undef, .undef, .undef, .undef, .undef, .undef, .undef], [.box (.st [.sl (ps.map Per.lv), .sl (us.map Uni.lv)]), .box (.st [.int .i64 ld, .int .i64 lc, .int .i64 la, .int .i64 lg, .int .i64 lw, .int .i64 lh, .bool lp, .bool lm]), .box x.lv, .box z.lv, .arr 4 1 [.bool false, .bool B1, .bool B2, .bool B3, .bool false, .bool false, .bool false, .bool false, .bool false, .bool false, .bool false, .bool false, .bool false]], ?_, ?_⟩
  · subst e3
    ((repeat ((conv => whnf); first | refine brT ?_ | refine brF ?_)); conv => whnf)
    (refine ⟨fun h => ?_, fun h => ?_⟩ <;> rw [h])
    · ((repeat ((conv => whnf); first | refine brT ?_ | refine brF ?_)); conv => whnf)
      refine ⟨rfl, rfl, 3, rfl, show 3 < 13 by omega, ?_⟩
      ((repeat ((conv => whnf); first | refine brT ?_ | refine brF ?_)); conv => whnf)
      refine ⟨rfl, 3, [], .bool false, rfl, rfl, rfl, rfl, rfl, _, rfl, ?_⟩
      ((repeat ((conv => whnf); first | refine brT ?_ | refine brF ?_)); conv => whnf)
      refine .inr ⟨[.old 0, .old 1, .old 2, .old 3, .old 4], ?_, ⟨rfl, rfl, rfl, rfl, rfl, rfl, rfl, rfl, rfl, rfl, trivial⟩, rfl⟩
      ((repeat ((conv => whnf); refine ⟨rfl, rfl, ?_⟩)); trivial)
    · ((repeat ((conv => whnf); first | refine brT ?_ | refine brF ?_)); conv => whnf)
      refine ⟨rfl, rfl, 3, rfl, show 3 < 13 by omega, ?_⟩
      ((repeat ((conv => whnf); first | refine brT ?_ | refine brF ?_)); conv => whnf)
      refine ⟨rfl, 3, [], .bool false, rfl, rfl, rfl, rfl, rfl, _, rfl, ?_⟩
      ((repeat ((conv => whnf); first | refine brT ?_ | refine brF ?_)); conv => whnf)
      refine .inr ⟨[.old 0, .old 1, .old 2, .old 3, .old 4], ?_, ⟨rfl, rfl, rfl, rfl, rfl, rfl, rfl, rfl, rfl, rfl, trivial⟩, rfl⟩
      ((repeat ((conv => whnf); refine ⟨rfl, rfl, ?_⟩)); trivial)
  ((repeat ((conv => whnf); first | refine brT ?_ | refine brF ?_)); conv => whnf)
  refine ⟨[.st [.sl (ps.map Per.lv), .sl (us.map Uni.lv)], .st [.int .i64 ld, .int .i64 lc, .int .i64 la, .int .i64 lg, .int .i64 lw, .int .i64 lh, .bool lp, .bool lm], .int .i64 (a : Int), .int .i64 (b : Int), .int .i64 y, .hp 0 0 [], .hp 1 0 [], .undef, .undef, .undef, .undef, .hp 2 0 [], .hp 3 0 [], .hs 4 13, .undef, .undef, .undef, .undef, .undef, .undef, .undef, .undef, .undef, .undef, .undef, .undef, .undef, .undef, .undef, .undef, .undef, .undef, .undef, .undef, .undef, .undef, .undef, .undef, .undef, .undef, .undef, .undef, .undef, .undef, .undef, .undef, .undef, .undef, .undef, .undef, .undef, .undef, .undef, .undef, .undef, .undef, .undef, .undef, .undef, .undef, .undef, .undef, .undef, .undef, .undef, .undef, .undef, .undef, .undef, .undef, .undef, .undef, .undef, .undef, .undef, .undef, .undef, .undef, .undef, .undef, .undef, .undef, .undef, .undef, .undef, .undef, .undef, .undef, .undef, .undef, .undef, .undef, .undef, .undef, .undef, .undef, .undef, .undef, .undef, .undef, .undef, .undef, .undef, .undef, .undef, .undef, .undef, .undef, .undef, .undef, .undef, .undef, .undef, .undef, .undef, .undef, .undef, .undef, .undef, .undef, .undef, .undef, .undef, .undef, .undef, .undef, .undef, .undef, .undef, .undef, .undef, .undef, .undef, .undef, .undef, .undef, .undef, .undef, .undef, .undef, .undef, .undef, .undef, .undef, .undef, .undef, .undef, .undef, .undef, .undef, .undef, .undef, .undef, .undef, .undef, .undef, .undef, .undef, .undef, .undef, .undef, .undef, .undef, .undef, .undef, .undef, .undef, .undef, .undef, .undef, .undef, .undef, .undef, .undef, .undef, .undef, .undef, .undef, .undef, .undef, .undef, .undef, .undef, .undef, .undef, .undef, .undef, .undef, .undef, .undef, .undef, .undef, .undef, .undef, .undef, .undef, .undef, .undef, .undef, .undef, .undef, .undef, .undef, .undef, .undef, .undef, .undef, .undef, .undef, .undef, .undef, .undef, .undef, .undef, .undef, .undef, .undef, .undef], [.box (.st [.sl (ps.map Per.lv), .sl (us.map Uni.lv)]), .box (.st [.int .i64 ld, .int .i64 lc, .int .i64 la, .int .i64 lg, .int .i64 lw, .int .i64 lh, .bool lp, .bool lm]), .box x.lv, .box z.lv, .arr 4 1 [.bool false, .bool B1, .bool B2, .bool B3, .bool B4, .bool false, .bool false, .bool false, .bool false, .bool false, .bool false, .bool false, .bool false]], ?_, ?_⟩
  · subst e4
    ((repeat ((conv => whnf); first | refine brT ?_ | refine brF ?_)); conv => whnf)
    refine ⟨true, by kernel_rfl, ?_⟩
    ((repeat ((conv => whnf); first | refine brT ?_ | refine brF ?_)); conv => whnf)
    refine ⟨_, hm1, ?_⟩
    rw [show flatT (rowOw R1) = true from flat_ints R1]
    ((repeat ((conv => whnf); first | refine brT ?_ | refine brF ?_)); conv => whnf)
    intro _
    ((repeat ((conv => whnf); first | refine brT ?_ | refine brF ?_)); conv => whnf)
    rw [hR1]
    ((repeat ((conv => whnf); first | refine brT ?_ | refine brF ?_)); conv => whnf)
    refine ⟨rfl, rfl, 4, rfl, show 4 < 13 by omega, ?_⟩
    ((repeat ((conv => whnf); first | refine brT ?_ | refine brF ?_)); conv => whnf)
    refine ⟨rfl, 4, [], .bool false, rfl, rfl, rfl, rfl, rfl, _, rfl, ?_⟩
    ((repeat ((conv => whnf); first | refine brT ?_ | refine brF ?_)); conv => whnf)
    refine .inr ⟨[.old 0, .old 1, .old 2, .old 3, .old 4], ?_, ⟨rfl, rfl, rfl, rfl, rfl, rfl, rfl, rfl, rfl, rfl, trivial⟩, rfl⟩
    ((repeat ((conv => whnf); refine ⟨rfl, rfl, ?_⟩)); trivial)
  ((repeat ((conv => whnf); first | refine brT ?_ | refine brF ?_)); conv => whnf)
  refine ⟨[.st [.sl (ps.map Per.lv), .sl (us.map Uni.lv)], .st [.int .i64 ld, .int .i64 lc, .int .i64 la, .int .i64 lg, .int .i64 lw, .int .i64 lh, .bool lp, .bool lm], .int .i64 (a : Int), .int .i64 (b : Int), .int .i64 y, .hp 0 0 [], .hp 1 0 [], .undef, .undef, .undef, .undef, .hp 2 0 [], .hp 3 0 [], .hs 4 13, .undef, .undef, .undef, .undef, .undef, .undef, .undef, .undef, .undef, .undef, .undef, .undef, .undef, .undef, .undef, .undef, .undef, .undef, .undef, .undef, .undef, .undef, .undef, .undef, .undef, .undef, .undef, .undef, .undef, .undef, .undef, .undef, .undef, .undef, .undef, .undef, .undef, .undef, .undef, .undef, .undef, .undef, .undef, .undef, .undef, .undef, .undef, .undef, .undef, .undef, .undef, .undef, .undef, .undef, .undef, .undef, .undef, .undef, .undef, .undef, .undef, .undef, .undef, .undef, .undef, .undef, .undef, .undef, .undef, .undef, .undef, .undef, .undef, .undef, .undef, .undef, .undef, .undef, .undef, .undef, .undef, .undef, .undef, .undef, .undef, .undef, .undef, .undef, .undef, .undef, .undef, .undef, .undef, .undef, .undef, .undef, .undef, .undef, .undef, .undef, .undef, .undef, .undef, .undef, .undef, .undef, .undef, .undef, .undef, .undef, .undef, .undef, .undef, .undef, .undef, .undef, .undef, .undef, .undef, .undef, .undef, .undef, .undef, .undef, .undef, .undef, .undef, .undef, .undef, .undef, .undef, .undef, .undef, .undef, .undef, .undef, .undef, .undef, .undef, .undef, .undef, .undef, .undef, .undef, .undef, .undef, .undef, .undef, .undef, .undef, .undef, .undef, .undef, .undef, .undef, .undef, .undef, .undef, .undef, .undef, .undef, .undef, .undef, .undef, .undef, .undef, .undef, .undef, .undef, .undef, .undef, .undef, .undef, .undef, .undef, .undef, .undef, .undef, .undef, .undef, .undef, .undef, .undef, .undef, .undef, .undef, .undef, .undef, .undef, .undef, .undef, .undef, .undef, .undef, .undef, .undef, .undef, .undef, .undef, .undef, .undef, .undef, .undef, .undef], [.box (.st [.sl (ps.map Per.lv), .sl (us.map Uni.lv)]), .box (.st [.int .i64 ld, .int .i64 lc, .int .i64 la, .int .i64 lg, .int .i64 lw, .int .i64 lh, .bool lp, .bool lm]), .box x.lv, .box z.lv, .arr 4 1 [.bool false, .bool B1, .bool B2, .bool B3, .bool B4, .bool B5, .bool false, .bool false, .bool false, .bool false, .bool false, .bool false, .bool false]], ?_, ?_⟩
  · subst e5
    ((repeat ((conv => whnf); first | refine brT ?_ | refine brF ?_)); conv => whnf)
    refine ⟨true, by kernel_rfl, ?_⟩
    ((repeat ((conv => whnf); first | refine brT ?_ | refine brF ?_)); conv => whnf)
    refine ⟨_, hm2, ?_⟩
    rw [show flatT (rowOw R2) = true from flat_ints R2]
    ((repeat ((conv => whnf); first | refine brT ?_ | refine brF ?_)); conv => whnf)
    intro _
    ((repeat ((conv => whnf); first | refine brT ?_ | refine brF ?_)); conv => whnf)
    rw [hR2]
    ((repeat ((conv => whnf); first | refine brT ?_ | refine brF ?_)); conv => whnf)
    refine ⟨rfl, rfl, 5, rfl, show 5 < 13 by omega, ?_⟩
    ((repeat ((conv => whnf); first | refine brT ?_ | refine brF ?_)); conv => whnf)
    refine ⟨rfl, 5, [], .bool false, rfl, rfl, rfl, rfl, rfl, _, rfl, ?_⟩
    ((repeat ((conv => whnf); first | refine brT ?_ | refine brF ?_)); conv => whnf)
    refine .inr ⟨[.old 0, .old 1, .old 2, .old 3, .old 4], ?_, ⟨rfl, rfl, rfl, rfl, rfl, rfl, rfl, rfl, rfl, rfl, trivial⟩, rfl⟩
    ((repeat ((conv => whnf); refine ⟨rfl, rfl, ?_⟩)); trivial)
  ((repeat ((conv => whnf); first | refine brT ?_ | refine brF ?_)); conv => whnf)
  refine ⟨[.st [.sl (ps.map Per.lv), .sl (us.map Uni.lv)], .st [.int .i64 ld, .int .i64 lc, .int .i64 la, .int .i64 lg, .int .i64 lw, .int .i64 lh, .bool lp, .bool lm], .int .i64 (a : Int), .int .i64 (b : Int), .int .i64 y, .hp 0 0 [], .hp 1 0 [], .undef, .undef, .undef, .undef, .hp 2 0 [], .hp 3 0 [], .hs 4 13, .undef, .undef, .undef, .undef, .undef, .undef, .undef, .undef, .undef, .undef, .undef, .undef, .undef, .undef, .undef, .undef, .undef, .undef, .undef, .undef, .undef, .undef, .undef, .undef, .undef, .undef, .undef, .undef, .undef, .undef, .undef, .undef, .undef, .undef, .undef, .undef, .undef, .undef, .undef, .undef, .undef, .undef, .undef, .undef, .undef, .undef, .undef, .undef, .undef, .undef, .undef, .undef, .undef, .undef, .undef, .undef, .undef, .undef, .undef, .undef, .undef, .undef, .undef, .undef, .undef, .undef, .undef, .undef, .undef, .undef, .undef, .undef, .undef, .undef, .undef, .undef, .undef, .undef, .undef, .undef, .undef, .undef, .undef, .undef, .undef, .undef, .undef, .undef, .undef, .undef, .undef, .undef, .undef, .undef, .undef, .undef, .undef, .undef, .undef, .undef, .undef, .undef, .undef, .undef, .undef, .undef, .undef, .undef, .undef, .undef, .undef, .undef, .undef, .undef, .undef, .undef, .undef, .undef, .undef, .undef, .undef, .undef, .undef, .undef, .undef, .undef, .undef, .undef, .undef, .undef, .undef, .undef, .undef, .undef, .undef, .undef, .undef, .undef, .undef, .undef, .undef, .undef, .undef, .undef, .undef, .undef, .undef, .undef, .undef, .undef, .undef, .undef, .undef, .undef, .undef, .undef, .undef, .undef, .undef, .undef, .undef, .undef, .undef, .undef, .undef, .undef, .undef, .undef, .undef, .undef, .undef, .undef, .undef, .undef, .undef, .undef, .undef, .undef, .undef, .undef, .undef, .undef, .undef, .undef, .undef, .undef, .undef, .undef, .undef, .undef, .undef, .undef, .undef, .undef, .undef, .undef, .undef, .undef, .undef, .undef, .undef, .undef, .undef, .undef], [.box (.st [.sl (ps.map Per.lv), .sl (us.map Uni.lv)]), .box (.st [.int .i64 ld, .int .i64 lc, .int .i64 la, .int .i64 lg, .int .i64 lw, .int .i64 lh, .bool lp, .bool lm]), .box x.lv, .box z.lv, .arr 4 1 [.bool false, .bool B1, .bool B2, .bool B3, .bool B4, .bool B5, .bool B6, .bool false, .bool false, .bool false, .bool false, .bool false, .bool false]], ?_, ?_⟩
  · subst e6
    ((repeat ((conv => whnf); first | refine brT ?_ | refine brF ?_)); conv => whnf)
    refine ⟨_, hu1, ?_⟩
    rw [show flatT (rowOw U1) = true from flat_ints U1]
    ((repeat ((conv => whnf); first | refine brT ?_ | refine brF ?_)); conv => whnf)
    refine ⟨b, _, rfl, hg1, rfl, ?_⟩
    ((repeat ((conv => whnf); first | refine brT ?_ | refine brF ?_)); conv => whnf)
    (refine ⟨fun h => ?_, fun h => ?_⟩ <;> rw [h])
    · ((repeat ((conv => whnf); first | refine brT ?_ | refine brF ?_)); conv => whnf)
      refine ⟨rfl, rfl, 6, rfl, show 6 < 13 by omega, ?_⟩
      ((repeat ((conv => whnf); first | refine brT ?_ | refine brF ?_)); conv => whnf)
      refine ⟨rfl, 6, [], .bool false, rfl, rfl, rfl, rfl, rfl, _, rfl, ?_⟩
      ((repeat ((conv => whnf); first | refine brT ?_ | refine brF ?_)); conv => whnf)
      refine .inr ⟨[.old 0, .old 1, .old 2, .old 3, .old 4], ?_, ⟨rfl, rfl, rfl, rfl, rfl, rfl, rfl, rfl, rfl, rfl, trivial⟩, rfl⟩
      ((repeat ((conv => whnf); refine ⟨rfl, rfl, ?_⟩)); trivial)
    · ((repeat ((conv => whnf); first | refine brT ?_ | refine brF ?_)); conv => whnf)
      refine ⟨_, hu2, ?_⟩
      rw [show flatT (rowOw U2) = true from flat_ints U2]
      ((repeat ((conv => whnf); first | refine brT ?_ | refine brF ?_)); conv => whnf)
      refine ⟨a, _, rfl, hg2, rfl, ?_⟩
      ((repeat ((conv => whnf); first | refine brT ?_ | refine brF ?_)); conv => whnf)
      refine ⟨rfl, rfl, 6, rfl, show 6 < 13 by omega, ?_⟩
      ((repeat ((conv => whnf); first | refine brT ?_ | refine brF ?_)); conv => whnf)
      refine ⟨rfl, 6, [], .bool false, rfl, rfl, rfl, rfl, rfl, _, rfl, ?_⟩
      ((repeat ((conv => whnf); first | refine brT ?_ | refine brF ?_)); conv => whnf)
      refine .inr ⟨[.old 0, .old 1, .old 2, .old 3, .old 4], ?_, ⟨rfl, rfl, rfl, rfl, rfl, rfl, rfl, rfl, rfl, rfl, trivial⟩, rfl⟩
      ((repeat ((conv => whnf); refine ⟨rfl, rfl, ?_⟩)); trivial)
  ((repeat ((conv => whnf); first | refine brT ?_ | refine brF ?_)); conv => whnf)
  refine ⟨[.st [.sl (ps.map Per.lv), .sl (us.map Uni.lv)], .st [.int .i64 ld, .int .i64 lc, .int .i64 la, .int .i64 lg, .int .i64 lw, .int .i64 lh, .bool lp, .bool lm], .int .i64 (a : Int), .int .i64 (b : Int), .int .i64 y, .hp 0 0 [], .hp 1 0 [], .undef, .undef, .undef, .undef, .hp 2 0 [], .hp 3 0 [], .hs 4 13, .undef, .undef, .undef, .undef, .undef, .undef, .undef, .undef, .undef, .undef, .undef, .undef, .undef, .undef, .undef, .undef, .undef, .undef, .undef, .undef, .undef, .undef, .undef, .undef, .undef, .undef, .undef, .undef, .undef, .undef, .undef, .undef, .undef, .undef, .undef, .undef, .undef, .undef, .undef, .undef, .undef, .undef, .undef, .undef, .undef, .undef, .undef, .undef, .undef, .undef, .undef, .undef, .undef, .undef, .undef, .undef, .undef, .undef, .undef, .undef, .undef, .undef, .undef, .undef, .undef, .undef, .undef, .undef, .undef, .undef, .undef, .undef, .undef, .undef, .undef, .undef, .undef, .undef, .undef, .undef, .undef, .undef, .undef, .undef, .undef, .undef, .undef, .undef, .undef, .undef, .undef, .undef, .undef, .undef, .undef, .undef, .undef, .undef, .undef, .undef, .undef, .undef, .undef, .undef, .undef, .undef, .undef, .undef, .undef, .undef, .undef, .undef, .undef, .undef, .undef, .undef, .undef, .undef, .undef, .undef, .undef, .undef, .undef, .undef, .undef, .undef, .undef, .undef, .undef, .undef, .undef, .undef, .undef, .undef, .undef, .undef, .undef, .undef, .undef, .undef, .undef, .undef, .undef, .undef, .undef, .undef, .undef, .undef, .undef, .undef, .undef, .undef, .undef, .undef, .undef, .undef, .undef, .undef, .undef, .undef, .undef, .undef, .undef, .undef, .undef, .undef, .undef, .undef, .undef, .undef, .undef, .undef, .undef, .undef, .undef, .undef, .undef, .undef, .undef, .undef, .undef, .undef, .undef, .undef, .undef, .undef, .undef, .undef, .undef, .undef, .undef, .undef, .undef, .undef, .undef, .undef, .undef, .undef, .undef, .undef, .undef, .undef, .undef, .undef], [.box (.st [.sl (ps.map Per.lv), .sl (us.map Uni.lv)]), .box (.st [.int .i64 ld, .int .i64 lc, .int .i64 la, .int .i64 lg, .int .i64 lw, .int .i64 lh, .bool lp, .bool lm]), .box x.lv, .box z.lv, .arr 4 1 [.bool false, .bool B1, .bool B2, .bool B3, .bool B4, .bool B5, .bool B6, .bool B7, .bool false, .bool false, .bool false, .bool false, .bool false]], ?_, ?_⟩
  · subst e7
    ((repeat ((conv => whnf); first | refine brT ?_ | refine brF ?_)); conv => whnf)
    (refine ⟨fun h => ?_, fun h => ?_⟩ <;> rw [h])
    · ((repeat ((conv => whnf); first | refine brT ?_ | refine brF ?_)); conv => whnf)
      refine ⟨_, hc7, ?_⟩
      ((repeat ((conv => whnf); first | refine brT ?_ | refine brF ?_)); conv => whnf)
      refine ⟨rfl, rfl, 7, rfl, show 7 < 13 by omega, ?_⟩
      ((repeat ((conv => whnf); first | refine brT ?_ | refine brF ?_)); conv => whnf)
      refine ⟨rfl, 7, [], .bool false, rfl, rfl, rfl, rfl, rfl, _, rfl, ?_⟩
      ((repeat ((conv => whnf); first | refine brT ?_ | refine brF ?_)); conv => whnf)
      refine .inr ⟨[.old 0, .old 1, .old 2, .old 3, .old 4], ?_, ⟨rfl, rfl, rfl, rfl, rfl, rfl, rfl, rfl, rfl, rfl, trivial⟩, rfl⟩
      ((repeat ((conv => whnf); refine ⟨rfl, rfl, ?_⟩)); trivial)
    · ((repeat ((conv => whnf); first | refine brT ?_ | refine brF ?_)); conv => whnf)
      refine ⟨rfl, rfl, 7, rfl, show 7 < 13 by omega, ?_⟩
      ((repeat ((conv => whnf); first | refine brT ?_ | refine brF ?_)); conv => whnf)
      refine ⟨rfl, 7, [], .bool false, rfl, rfl, rfl, rfl, rfl, _, rfl, ?_⟩
      ((repeat ((conv => whnf); first | refine brT ?_ | refine brF ?_)); conv => whnf)
      refine .inr ⟨[.old 0, .old 1, .old 2, .old 3, .old 4], ?_, ⟨rfl, rfl, rfl, rfl, rfl, rfl, rfl, rfl, rfl, rfl, trivial⟩, rfl⟩
      ((repeat ((conv => whnf); refine ⟨rfl, rfl, ?_⟩)); trivial)
  ((repeat ((conv => whnf); first | refine brT ?_ | refine brF ?_)); conv => whnf)
  refine ⟨[.st [.sl (ps.map Per.lv), .sl (us.map Uni.lv)], .st [.int .i64 ld, .int .i64 lc, .int .i64 la, .int .i64 lg, .int .i64 lw, .int .i64 lh, .bool lp, .bool lm], .int .i64 (a : Int), .int .i64 (b : Int), .int .i64 y, .hp 0 0 [], .hp 1 0 [], .undef, .undef, .undef, .undef, .hp 2 0 [], .hp 3 0 [], .hs 4 13, .int .i64 cn, .bool ok, .undef, .undef, .undef, .undef, .undef, .undef, .undef, .undef, .undef, .undef, .undef, .undef, .undef, .undef, .undef, .undef, .undef, .undef, .undef, .undef, .undef, .undef, .undef, .undef, .undef, .undef, .undef, .undef, .undef, .undef, .undef, .undef, .undef, .undef, .undef, .undef, .undef, .undef, .undef, .undef, .undef, .undef, .undef, .undef, .undef, .undef, .undef, .undef, .undef, .undef, .undef, .undef, .undef, .undef, .undef, .undef, .undef, .undef, .undef, .undef, .undef, .undef, .undef, .undef, .undef, .undef, .undef, .undef, .undef, .undef, .undef, .undef, .undef, .undef, .undef, .undef, .undef, .undef, .undef, .undef, .undef, .undef, .undef, .undef, .undef, .undef, .undef, .undef, .undef, .undef, .undef, .undef, .undef, .undef, .undef, .undef, .undef, .undef, .undef, .undef, .undef, .undef, .undef, .undef, .undef, .undef, .undef, .undef, .undef, .undef, .undef, .undef, .undef, .undef, .undef, .undef, .undef, .undef, .undef, .undef, .undef, .undef, .undef, .undef, .undef, .undef, .undef, .undef, .undef, .undef, .undef, .undef, .undef, .undef, .undef, .undef, .undef, .undef, .undef, .undef, .undef, .undef, .undef, .undef, .undef, .undef, .undef, .undef, .undef, .undef, .undef, .undef, .undef, .undef, .undef, .undef, .undef, .undef, .undef, .undef, .undef, .undef, .undef, .undef, .undef, .undef, .undef, .undef, .undef, .undef, .undef, .undef, .undef, .undef, .undef, .undef, .undef, .undef, .undef, .undef, .undef, .undef, .undef, .undef, .undef, .undef, .undef, .undef, .undef, .undef, .undef, .undef, .undef, .undef, .undef, .undef, .undef, .undef, .undef, .undef, .undef, .undef], [.box (.st [.sl (ps.map Per.lv), .sl (us.map Uni.lv)]), .box (.st [.int .i64 ld, .int .i64 lc, .int .i64 la, .int .i64 lg, .int .i64 lw, .int .i64 lh, .bool lp, .bool lm]), .box x.lv, .box z.lv, .arr 4 1 [.bool false, .bool B1, .bool B2, .bool B3, .bool B4, .bool B5, .bool B6, .bool B7, .bool false, .bool false, .bool false, .bool false, .bool false]], ?_, ?_⟩
  · ((repeat ((conv => whnf); first | refine brT ?_ | refine brF ?_)); conv => whnf)
    refine ⟨_, hcn, ?_⟩
    ((repeat ((conv => whnf); first | refine brT ?_ | refine brF ?_)); conv => whnf)
    refine .inr ⟨[.old 0, .old 1, .old 2, .old 3, .old 4], ?_, ⟨rfl, rfl, rfl, rfl, rfl, rfl, rfl, rfl, rfl, rfl, trivial⟩, rfl⟩
    ((repeat ((conv => whnf); refine ⟨rfl, rfl, ?_⟩)); trivial)
  ((repeat ((conv => whnf); first | refine brT ?_ | refine brF ?_)); conv => whnf)
  refine ⟨[.st [.sl (ps.map Per.lv), .sl (us.map Uni.lv)], .st [.int .i64 ld, .int .i64 lc, .int .i64 la, .int .i64 lg, .int .i64 lw, .int .i64 lh, .bool lp, .bool lm], .int .i64 (a : Int), .int .i64 (b : Int), .int .i64 y, .hp 0 0 [], .hp 1 0 [], .undef, .undef, .undef, .undef, .hp 2 0 [], .hp 3 0 [], .hs 4 13, .undef, .undef, .undef, .undef, .undef, .undef, .undef, .undef, .undef, .undef, .undef, .undef, .undef, .undef, .undef, .undef, .undef, .undef, .undef, .undef, .undef, .undef, .undef, .undef, .undef, .undef, .undef, .undef, .undef, .undef, .undef, .undef, .undef, .undef, .undef, .undef, .undef, .undef, .undef, .undef, .undef, .undef, .undef, .undef, .undef, .undef, .undef, .undef, .undef, .undef, .undef, .undef, .undef, .undef, .undef, .undef, .undef, .undef, .undef, .undef, .undef, .undef, .undef, .undef, .undef, .undef, .undef, .undef, .undef, .undef, .undef, .undef, .undef, .undef, .undef, .undef, .undef, .undef, .undef, .undef, .undef, .undef, .undef, .undef, .undef, .undef, .undef, .undef, .undef, .undef, .undef, .undef, .undef, .undef, .undef, .undef, .undef, .undef, .undef, .undef, .undef, .undef, .undef, .undef, .undef, .undef, .undef, .undef, .undef, .undef, .undef, .undef, .undef, .undef, .undef, .undef, .undef, .undef, .undef, .undef, .undef, .undef, .undef, .undef, .undef, .undef, .undef, .undef, .undef, .undef, .undef, .undef, .undef, .undef, .undef, .undef, .undef, .undef, .undef, .undef, .undef, .undef, .undef, .undef, .undef, .undef, .undef, .undef, .undef, .undef, .undef, .undef, .undef, .undef, .undef, .undef, .undef, .undef, .undef, .undef, .undef, .undef, .undef, .undef, .undef, .undef, .undef, .undef, .undef, .undef, .undef, .undef, .undef, .undef, .undef, .undef, .undef, .undef, .undef, .undef, .undef, .undef, .undef, .undef, .undef, .undef, .undef, .undef, .undef, .undef, .undef, .undef, .undef, .undef, .undef, .undef, .undef, .undef, .undef, .undef, .undef, .undef, .undef, .undef], [.box (.st [.sl (ps.map Per.lv), .sl (us.map Uni.lv)]), .box (.st [.int .i64 ld, .int .i64 lc, .int .i64 la, .int .i64 lg, .int .i64 lw, .int .i64 lh, .bool lp, .bool lm]), .box x.lv, .box z.lv, .arr 4 1 [.bool false, .bool B1, .bool B2, .bool B3, .bool B4, .bool B5, .bool B6, .bool B7, .bool B8, .bool false, .bool false, .bool false, .bool false]], ?_, ?_⟩
  · subst e8
    ((repeat ((conv => whnf); first | refine brT ?_ | refine brF ?_)); conv => whnf)
    (refine ⟨fun h => ?_, fun h => ?_⟩ <;> rw [h])
    · ((repeat ((conv => whnf); first | refine brT ?_ | refine brF ?_)); conv => whnf)
      cases ok
      · ((repeat ((conv => whnf); first | refine brT ?_ | refine brF ?_)); conv => whnf)
        refine ⟨rfl, rfl, 8, rfl, show 8 < 13 by omega, ?_⟩
        ((repeat ((conv => whnf); first | refine brT ?_ | refine brF ?_)); conv => whnf)
        refine ⟨rfl, 8, [], .bool false, rfl, rfl, rfl, rfl, rfl, _, rfl, ?_⟩
        ((repeat ((conv => whnf); first | refine brT ?_ | refine brF ?_)); conv => whnf)
        refine .inr ⟨[.old 0, .old 1, .old 2, .old 3, .old 4], ?_, ⟨rfl, rfl, rfl, rfl, rfl, rfl, rfl, rfl, rfl, rfl, trivial⟩, rfl⟩
        ((repeat ((conv => whnf); refine ⟨rfl, rfl, ?_⟩)); trivial)
      · ((repeat ((conv => whnf); first | refine brT ?_ | refine brF ?_)); conv => whnf)
        refine ⟨rfl, rfl, 8, rfl, show 8 < 13 by omega, ?_⟩
        ((repeat ((conv => whnf); first | refine brT ?_ | refine brF ?_)); conv => whnf)
        refine ⟨rfl, 8, [], .bool false, rfl, rfl, rfl, rfl, rfl, _, rfl, ?_⟩
        ((repeat ((conv => whnf); first | refine brT ?_ | refine brF ?_)); conv => whnf)
        refine .inr ⟨[.old 0, .old 1, .old 2, .old 3, .old 4], ?_, ⟨rfl, rfl, rfl, rfl, rfl, rfl, rfl, rfl, rfl, rfl, trivial⟩, rfl⟩
        ((repeat ((conv => whnf); refine ⟨rfl, rfl, ?_⟩)); trivial)
    · ((repeat ((conv => whnf); first | refine brT ?_ | refine brF ?_)); conv => whnf)
      refine ⟨rfl, rfl, 8, rfl, show 8 < 13 by omega, ?_⟩
      ((repeat ((conv => whnf); first | refine brT ?_ | refine brF ?_)); conv => whnf)
      refine ⟨rfl, 8, [], .bool false, rfl, rfl, rfl, rfl, rfl, _, rfl, ?_⟩
      ((repeat ((conv => whnf); first | refine brT ?_ | refine brF ?_)); conv => whnf)
      refine .inr ⟨[.old 0, .old 1, .old 2, .old 3, .old 4], ?_, ⟨rfl, rfl, rfl, rfl, rfl, rfl, rfl, rfl, rfl, rfl, trivial⟩, rfl⟩
      ((repeat ((conv => whnf); refine ⟨rfl, rfl, ?_⟩)); trivial)
  ((repeat ((conv => whnf); first | refine brT ?_ | refine brF ?_)); conv => whnf)
  refine ⟨[.st [.sl (ps.map Per.lv), .sl (us.map Uni.lv)], .st [.int .i64 ld, .int .i64 lc, .int .i64 la, .int .i64 lg, .int .i64 lw, .int .i64 lh, .bool lp, .bool lm], .int .i64 (a : Int), .int .i64 (b : Int), .int .i64 y, .hp 0 0 [], .hp 1 0 [], .undef, .undef, .undef, .undef, .hp 2 0 [], .hp 3 0 [], .hs 4 13, .undef, .undef, .undef, .undef, .undef, .undef, .undef, .undef, .undef, .undef, .undef, .undef, .undef, .undef, .undef, .undef, .undef, .undef, .undef, .undef, .undef, .undef, .undef, .undef, .undef, .undef, .undef, .undef, .undef, .undef, .undef, .undef, .undef, .undef, .undef, .undef, .undef, .undef, .undef, .undef, .undef, .undef, .undef, .undef, .undef, .undef, .undef, .undef, .undef, .undef, .undef, .undef, .undef, .undef, .undef, .undef, .undef, .undef, .undef, .undef, .undef, .undef, .undef, .undef, .undef, .undef, .undef, .undef, .undef, .undef, .undef, .undef, .undef, .undef, .undef, .undef, .undef, .undef, .undef, .undef, .undef, .undef, .undef, .undef, .undef, .undef, .undef, .undef, .undef, .undef, .undef, .undef, .undef, .undef, .undef, .undef, .undef, .undef, .undef, .undef, .undef, .undef, .undef, .undef, .undef, .undef, .undef, .undef, .undef, .undef, .undef, .undef, .undef, .undef, .undef, .undef, .undef, .undef, .undef, .undef, .undef, .undef, .undef, .undef, .undef, .undef, .undef, .undef, .undef, .undef, .undef, .undef, .undef, .undef, .undef, .undef, .undef, .undef, .undef, .undef, .undef, .undef, .undef, .undef, .undef, .undef, .undef, .undef, .undef, .undef, .undef, .undef, .undef, .undef, .undef, .undef, .undef, .undef, .undef, .undef, .undef, .undef, .undef, .undef, .undef, .undef, .undef, .undef, .undef, .undef, .undef, .undef, .undef, .undef, .undef, .undef, .undef, .undef, .undef, .undef, .undef, .undef, .undef, .undef, .undef, .undef, .undef, .undef, .undef, .undef, .undef, .undef, .undef, .undef, .undef, .undef, .undef, .undef, .undef, .undef, .undef, .undef, .undef, .undef], [.box (.st [.sl (ps.map Per.lv), .sl (us.map Uni.lv)]), .box (.st [.int .i64 ld, .int .i64 lc, .int .i64 la, .int .i64 lg, .int .i64 lw, .int .i64 lh, .bool lp, .bool lm]), .box x.lv, .box z.lv, .arr 4 1 [.bool false, .bool B1, .bool B2, .bool B3, .bool B4, .bool B5, .bool B6, .bool B7, .bool B8, .bool B9, .bool false, .bool false, .bool false]], ?_, ?_⟩
  · subst e9
    ((repeat ((conv => whnf); first | refine brT ?_ | refine brF ?_)); conv => whnf)
    refine ⟨true, by kernel_rfl, ?_⟩
    ((repeat ((conv => whnf); first | refine brT ?_ | refine brF ?_)); conv => whnf)
    cases lp
    · ((repeat ((conv => whnf); first | refine brT ?_ | refine brF ?_)); conv => whnf)
      refine ⟨rfl, rfl, 9, rfl, show 9 < 13 by omega, ?_⟩
      ((repeat ((conv => whnf); first | refine brT ?_ | refine brF ?_)); conv => whnf)
      refine ⟨rfl, 9, [], .bool false, rfl, rfl, rfl, rfl, rfl, _, rfl, ?_⟩
      ((repeat ((conv => whnf); first | refine brT ?_ | refine brF ?_)); conv => whnf)
      refine .inr ⟨[.old 0, .old 1, .old 2, .old 3, .old 4], ?_, ⟨rfl, rfl, rfl, rfl, rfl, rfl, rfl, rfl, rfl, rfl, trivial⟩, rfl⟩
      ((repeat ((conv => whnf); refine ⟨rfl, rfl, ?_⟩)); trivial)
    · ((repeat ((conv => whnf); first | refine brT ?_ | refine brF ?_)); conv => whnf)
      refine ⟨_, hf1, ?_⟩
      ((repeat ((conv => whnf); first | refine brT ?_ | refine brF ?_)); conv => whnf)
      refine ⟨_, hf2, ?_⟩
      ((repeat ((conv => whnf); first | refine brT ?_ | refine brF ?_)); conv => whnf)
      refine ⟨rfl, rfl, 9, rfl, show 9 < 13 by omega, ?_⟩
      ((repeat ((conv => whnf); first | refine brT ?_ | refine brF ?_)); conv => whnf)
      refine ⟨rfl, 9, [], .bool false, rfl, rfl, rfl, rfl, rfl, _, rfl, ?_⟩
      ((repeat ((conv => whnf); first | refine brT ?_ | refine brF ?_)); conv => whnf)
      refine .inr ⟨[.old 0, .old 1, .old 2, .old 3, .old 4], ?_, ⟨rfl, rfl, rfl, rfl, rfl, rfl, rfl, rfl, rfl, rfl, trivial⟩, rfl⟩
      ((repeat ((conv => whnf); refine ⟨rfl, rfl, ?_⟩)); trivial)
  ((repeat ((conv => whnf); first | refine brT ?_ | refine brF ?_)); conv => whnf)
  refine ⟨[.st [.sl (ps.map Per.lv), .sl (us.map Uni.lv)], .st [.int .i64 ld, .int .i64 lc, .int .i64 la, .int .i64 lg, .int .i64 lw, .int .i64 lh, .bool lp, .bool lm], .int .i64 (a : Int), .int .i64 (b : Int), .int .i64 y, .hp 0 0 [], .hp 1 0 [], .undef, .undef, .undef, .undef, .hp 2 0 [], .hp 3 0 [], .hs 4 13, .undef, .undef, .undef, .undef, .undef, .undef, .undef, .undef, .undef, .undef, .undef, .undef, .undef, .undef, .undef, .undef, .undef, .undef, .undef, .undef, .undef, .undef, .undef, .undef, .undef, .undef, .undef, .undef, .undef, .undef, .undef, .undef, .undef, .undef, .undef, .undef, .undef, .undef, .undef, .undef, .undef, .undef, .undef, .undef, .undef, .undef, .undef, .undef, .undef, .undef, .undef, .undef, .undef, .undef, .undef, .undef, .undef, .undef, .undef, .undef, .undef, .undef, .undef, .undef, .undef, .undef, .undef, .undef, .undef, .undef, .undef, .undef, .undef, .undef, .undef, .undef, .undef, .undef, .undef, .undef, .undef, .undef, .undef, .undef, .undef, .undef, .undef, .undef, .undef, .undef, .undef, .undef, .undef, .undef, .undef, .undef, .undef, .undef, .undef, .undef, .undef, .undef, .undef, .undef, .undef, .undef, .undef, .undef, .undef, .undef, .undef, .undef, .undef, .undef, .undef, .undef, .undef, .undef, .undef, .undef, .undef, .undef, .undef, .undef, .undef, .undef, .undef, .undef, .undef, .undef, .undef, .undef, .undef, .undef, .undef, .undef, .undef, .undef, .undef, .undef, .undef, .undef, .undef, .undef, .undef, .undef, .undef, .undef, .undef, .undef, .undef, .undef, .undef, .undef, .undef, .undef, .undef, .undef, .undef, .undef, .undef, .undef, .undef, .undef, .undef, .undef, .undef, .undef, .undef, .undef, .undef, .undef, .undef, .undef, .undef, .undef, .undef, .undef, .undef, .undef, .undef, .undef, .undef, .undef, .undef, .undef, .undef, .undef, .undef, .undef, .undef, .undef, .undef, .undef, .undef, .undef, .undef, .undef, .undef, .undef, .undef, .undef, .undef, .undef], [.box (.st [.sl (ps.map Per.lv), .sl (us.map Uni.lv)]), .box (.st [.int .i64 ld, .int .i64 lc, .int .i64 la, .int .i64 lg, .int .i64 lw, .int .i64 lh, .bool lp, .bool lm]), .box x.lv, .box z.lv, .arr 4 1 [.bool false, .bool B1, .bool B2, .bool B3, .bool B4, .bool B5, .bool B6, .bool B7, .bool B8, .bool B9, .bool B10, .bool false, .bool false]], ?_, ?_⟩
  · subst e10
    ((repeat ((conv => whnf); first | refine brT ?_ | refine brF ?_)); conv => whnf)
    refine ⟨true, by kernel_rfl, ?_⟩
    ((repeat ((conv => whnf); first | refine brT ?_ | refine brF ?_)); conv => whnf)
    cases lm
    · ((repeat ((conv => whnf); first | refine brT ?_ | refine brF ?_)); conv => whnf)
      refine ⟨rfl, rfl, 10, rfl, show 10 < 13 by omega, ?_⟩
      ((repeat ((conv => whnf); first | refine brT ?_ | refine brF ?_)); conv => whnf)
      refine ⟨rfl, 10, [], .bool false, rfl, rfl, rfl, rfl, rfl, _, rfl, ?_⟩
      ((repeat ((conv => whnf); first | refine brT ?_ | refine brF ?_)); conv => whnf)
      refine .inr ⟨[.old 0, .old 1, .old 2, .old 3, .old 4], ?_, ⟨rfl, rfl, rfl, rfl, rfl, rfl, rfl, rfl, rfl, rfl, trivial⟩, rfl⟩
      ((repeat ((conv => whnf); refine ⟨rfl, rfl, ?_⟩)); trivial)
    · ((repeat ((conv => whnf); first | refine brT ?_ | refine brF ?_)); conv => whnf)
      refine ⟨_, hf3, ?_⟩
      ((repeat ((conv => whnf); first | refine brT ?_ | refine brF ?_)); conv => whnf)
      refine ⟨_, hf4, ?_⟩
      ((repeat ((conv => whnf); first | refine brT ?_ | refine brF ?_)); conv => whnf)
      refine ⟨rfl, rfl, 10, rfl, show 10 < 13 by omega, ?_⟩
      ((repeat ((conv => whnf); first | refine brT ?_ | refine brF ?_)); conv => whnf)
      refine ⟨rfl, 10, [], .bool false, rfl, rfl, rfl, rfl, rfl, _, rfl, ?_⟩
      ((repeat ((conv => whnf); first | refine brT ?_ | refine brF ?_)); conv => whnf)
      refine .inr ⟨[.old 0, .old 1, .old 2, .old 3, .old 4], ?_, ⟨rfl, rfl, rfl, rfl, rfl, rfl, rfl, rfl, rfl, rfl, trivial⟩, rfl⟩
      ((repeat ((conv => whnf); refine ⟨rfl, rfl, ?_⟩)); trivial)
  ((repeat ((conv => whnf); first | refine brT ?_ | refine brF ?_)); conv => whnf)
  refine ⟨[.st [.sl (ps.map Per.lv), .sl (us.map Uni.lv)], .st [.int .i64 ld, .int .i64 lc, .int .i64 la, .int .i64 lg, .int .i64 lw, .int .i64 lh, .bool lp, .bool lm], .int .i64 (a : Int), .int .i64 (b : Int), .int .i64 y, .hp 0 0 [], .hp 1 0 [], .undef, .undef, .undef, .undef, .hp 2 0 [], .hp 3 0 [], .hs 4 13, .undef, .undef, .undef, .undef, .undef, .undef, .undef, .undef, .undef, .undef, .undef, .undef, .undef, .undef, .undef, .undef, .undef, .undef, .undef, .undef, .undef, .undef, .undef, .undef, .undef, .undef, .undef, .undef, .undef, .undef, .undef, .undef, .undef, .undef, .undef, .undef, .undef, .undef, .undef, .undef, .undef, .undef, .undef, .undef, .undef, .undef, .undef, .undef, .undef, .undef, .undef, .undef, .undef, .undef, .undef, .undef, .undef, .undef, .undef, .undef, .undef, .undef, .undef, .undef, .undef, .undef, .undef, .undef, .undef, .undef, .undef, .undef, .undef, .undef, .undef, .undef, .undef, .undef, .undef, .undef, .undef, .undef, .undef, .undef, .undef, .undef, .undef, .undef, .undef, .undef, .undef, .undef, .undef, .undef, .undef, .undef, .undef, .undef, .undef, .undef, .undef, .undef, .undef, .undef, .undef, .undef, .undef, .undef, .undef, .undef, .undef, .undef, .undef, .undef, .undef, .undef, .undef, .undef, .undef, .undef, .undef, .undef, .undef, .undef, .undef, .undef, .undef, .undef, .undef, .undef, .undef, .undef, .undef, .undef, .undef, .undef, .undef, .undef, .undef, .undef, .undef, .undef, .undef, .undef, .undef, .undef, .undef, .undef, .undef, .undef, .undef, .undef, .undef, .undef, .undef, .undef, .undef, .undef, .undef, .undef, .undef, .undef, .undef, .undef, .undef, .undef, .undef, .undef, .undef, .undef, .undef, .undef, .undef, .undef, .undef, .undef, .undef, .undef, .undef, .undef, .undef, .undef, .undef, .undef, .undef, .undef, .undef, .undef, .undef, .undef, .undef, .undef, .undef, .undef, .undef, .undef, .undef, .undef, .undef, .undef, .undef, .undef, .undef, .undef], [.box (.st [.sl (ps.map Per.lv), .sl (us.map Uni.lv)]), .box (.st [.int .i64 ld, .int .i64 lc, .int .i64 la, .int .i64 lg, .int .i64 lw, .int .i64 lh, .bool lp, .bool lm]), .box x.lv, .box z.lv, .arr 4 1 [.bool false, .bool B1, .bool B2, .bool B3, .bool B4, .bool B5, .bool B6, .bool B7, .bool B8, .bool B9, .bool B10, .bool B11, .bool false]], ?_, ?_⟩
  · subst e11
    ((repeat ((conv => whnf); first | refine brT ?_ | refine brF ?_)); conv => whnf)
    (refine ⟨fun h => ?_, fun h => ?_⟩ <;> rw [h])
    · ((repeat ((conv => whnf); first | refine brT ?_ | refine brF ?_)); conv => whnf)
      refine ⟨_, ha1, ?_⟩
      ((repeat ((conv => whnf); first | refine brT ?_ | refine brF ?_)); conv => whnf)
      cases a1
      · ((repeat ((conv => whnf); first | refine brT ?_ | refine brF ?_)); conv => whnf)
        refine ⟨_, ha2, ?_⟩
        ((repeat ((conv => whnf); first | refine brT ?_ | refine brF ?_)); conv => whnf)
        refine ⟨rfl, rfl, 11, rfl, show 11 < 13 by omega, ?_⟩
        ((repeat ((conv => whnf); first | refine brT ?_ | refine brF ?_)); conv => whnf)
        refine ⟨rfl, 11, [], .bool false, rfl, rfl, rfl, rfl, rfl, _, rfl, ?_⟩
        ((repeat ((conv => whnf); first | refine brT ?_ | refine brF ?_)); conv => whnf)
        refine .inr ⟨[.old 0, .old 1, .old 2, .old 3, .old 4], ?_, ⟨rfl, rfl, rfl, rfl, rfl, rfl, rfl, rfl, rfl, rfl, trivial⟩, rfl⟩
        ((repeat ((conv => whnf); refine ⟨rfl, rfl, ?_⟩)); trivial)
      · ((repeat ((conv => whnf); first | refine brT ?_ | refine brF ?_)); conv => whnf)
        refine ⟨rfl, rfl, 11, rfl, show 11 < 13 by omega, ?_⟩
        ((repeat ((conv => whnf); first | refine brT ?_ | refine brF ?_)); conv => whnf)
        refine ⟨rfl, 11, [], .bool false, rfl, rfl, rfl, rfl, rfl, _, rfl, ?_⟩
        ((repeat ((conv => whnf); first | refine brT ?_ | refine brF ?_)); conv => whnf)
        refine .inr ⟨[.old 0, .old 1, .old 2, .old 3, .old 4], ?_, ⟨rfl, rfl, rfl, rfl, rfl, rfl, rfl, rfl, rfl, rfl, trivial⟩, rfl⟩
        ((repeat ((conv => whnf); refine ⟨rfl, rfl, ?_⟩)); trivial)
    · ((repeat ((conv => whnf); first | refine brT ?_ | refine brF ?_)); conv => whnf)
      refine ⟨rfl, rfl, 11, rfl, show 11 < 13 by omega, ?_⟩
      ((repeat ((conv => whnf); first | refine brT ?_ | refine brF ?_)); conv => whnf)
      refine ⟨rfl, 11, [], .bool false, rfl, rfl, rfl, rfl, rfl, _, rfl, ?_⟩
      ((repeat ((conv => whnf); first | refine brT ?_ | refine brF ?_)); conv => whnf)
      refine .inr ⟨[.old 0, .old 1, .old 2, .old 3, .old 4], ?_, ⟨rfl, rfl, rfl, rfl, rfl, rfl, rfl, rfl, rfl, rfl, trivial⟩, rfl⟩
      ((repeat ((conv => whnf); refine ⟨rfl, rfl, ?_⟩)); trivial)
  ((repeat ((conv => whnf); first | refine brT ?_ | refine brF ?_)); conv => whnf)
  have hU : (us.map Uni.lv).length = us.length := List.length_map ..
  intro _
  ((repeat ((conv => whnf); first | refine brT ?_ | refine brF ?_)); conv => whnf)
  rw [hU]
  refine loop_rule (α := Nat) (fun k => [(193, .int .i64 (k : Int))]) (fun k => [.box (.st [.sl (ps.map Per.lv), .sl (us.map Uni.lv)]), .box (.st [.int .i64 ld, .int .i64 lc, .int .i64 la, .int .i64 lg, .int .i64 lw, .int .i64 lh, .bool lp, .bool lm]), .box x.lv, .box z.lv, .arr 4 1 [.bool false, .bool B1, .bool B2, .bool B3, .bool B4, .bool B5, .bool B6, .bool B7, .bool B8, .bool B9, .bool B10, .bool B11, .bool ((us.take k).any (fun u => otherB (a : Int) u && eqI (otherV (a : Int) u) (b : Int)))]]) (fun k => us.length - k) (fun k => k ≤ us.length) 0 (Nat.zero_le _) ?_ ?_
  · refine ⟨?_, ⟨rfl, rfl, rfl, rfl, rfl, trivial⟩, rfl, rfl⟩
    ((repeat ((conv => whnf); refine ⟨rfl, ?_⟩)); trivial)
  intro k hk
  generalize hK : kk _ = KK
  ((repeat ((conv => whnf); first | refine brT ?_ | refine brF ?_)); conv => whnf)
  (refine ⟨fun g1 => ?_, fun g1 => ?_⟩ <;> rw [g1])
  · have hlt : k < us.length := by rw [ltI_t] at g1; omega
    have e := step_i hlt (by unfold Go.maxLen; omega)
    have hg : (us.map Uni.lv)[k]? = some us[k].lv := by rw [List.getElem?_map, List.getElem?_eq_getElem hlt]; rfl
    have hA : (us.take (k + 1)).any (fun u => otherB (a : Int) u && eqI (otherV (a : Int) u) (b : Int)) = ((us.take k).any (fun u => otherB (a : Int) u && eqI (otherV (a : Int) u) (b : Int)) || (otherB (a : Int) us[k] && eqI (otherV (a : Int) us[k]) (b : Int))) := by
      rw [List.take_succ_eq_append_getElem hlt, List.any_append]; simp
    generalize us[k] = u at hA hg
    have h1 := l1Other_spec u (a : Int)
    generalize otherV (a : Int) u = v at hA h1
    generalize otherB (a : Int) u = c1 at hA h1
    generalize (us.take k).any (fun u => otherB (a : Int) u && eqI (otherV (a : Int) u) (b : Int)) = A at hA ⊢
    ((repeat ((conv => whnf); first | refine brT ?_ | refine brF ?_)); conv => whnf)
    refine ⟨k, u.lv, rfl, hg, rfl, ?_⟩
    ((repeat ((conv => whnf); first | refine brT ?_ | refine brF ?_)); conv => whnf)
    refine ⟨_, h1, ?_⟩
    ((repeat ((conv => whnf); first | refine brT ?_ | refine brF ?_)); conv => whnf)
    refine ⟨rfl, rfl, 12, rfl, show 12 < 13 by omega, ?_⟩
    ((repeat ((conv => whnf); first | refine brT ?_ | refine brF ?_)); conv => whnf)
    refine ⟨rfl, by simp, _, rfl, rfl, ?_⟩
    ((repeat ((conv => whnf); first | refine brT ?_ | refine brF ?_)); conv => whnf)
    cases A
    · ((repeat ((conv => whnf); first | refine brT ?_ | refine brF ?_)); conv => whnf)
      cases c1
      · ((repeat ((conv => whnf); first | refine brT ?_ | refine brF ?_)); conv => whnf)
        refine ⟨rfl, rfl, 12, rfl, show 12 < 13 by omega, ?_⟩
        ((repeat ((conv => whnf); first | refine brT ?_ | refine brF ?_)); conv => whnf)
        refine ⟨rfl, 12, [], _, rfl, rfl, rfl, rfl, rfl, _, rfl, ?_⟩
        ((repeat ((conv => whnf); first | refine brT ?_ | refine brF ?_)); conv => whnf)
        subst hK
        refine round_end (k + 1) hlt (by omega) ⟨?_, ⟨rfl, rfl, rfl, rfl, congrArg (fun V => Blk.arr 4 1 [.bool false, .bool B1, .bool B2, .bool B3, .bool B4, .bool B5, .bool B6, .bool B7, .bool B8, .bool B9, .bool B10, .bool B11, .bool V]) hA.symm, trivial⟩, rfl, rfl⟩
        ((repeat ((conv => whnf); first | refine ⟨e, ?_⟩ | refine ⟨rfl, ?_⟩)); trivial)
      · ((repeat ((conv => whnf); first | refine brT ?_ | refine brF ?_)); conv => whnf)
        refine ⟨rfl, rfl, 12, rfl, show 12 < 13 by omega, ?_⟩
        ((repeat ((conv => whnf); first | refine brT ?_ | refine brF ?_)); conv => whnf)
        refine ⟨rfl, 12, [], _, rfl, rfl, rfl, rfl, rfl, _, rfl, ?_⟩
        ((repeat ((conv => whnf); first | refine brT ?_ | refine brF ?_)); conv => whnf)
        subst hK
        refine round_end (k + 1) hlt (by omega) ⟨?_, ⟨rfl, rfl, rfl, rfl, congrArg (fun V => Blk.arr 4 1 [.bool false, .bool B1, .bool B2, .bool B3, .bool B4, .bool B5, .bool B6, .bool B7, .bool B8, .bool B9, .bool B10, .bool B11, .bool V]) hA.symm, trivial⟩, rfl, rfl⟩
        ((repeat ((conv => whnf); first | refine ⟨e, ?_⟩ | refine ⟨rfl, ?_⟩)); trivial)
    · ((repeat ((conv => whnf); first | refine brT ?_ | refine brF ?_)); conv => whnf)
      refine ⟨rfl, rfl, 12, rfl, show 12 < 13 by omega, ?_⟩
      ((repeat ((conv => whnf); first | refine brT ?_ | refine brF ?_)); conv => whnf)
      refine ⟨rfl, 12, [], _, rfl, rfl, rfl, rfl, rfl, _, rfl, ?_⟩
      ((repeat ((conv => whnf); first | refine brT ?_ | refine brF ?_)); conv => whnf)
      subst hK
      refine round_end (k + 1) hlt (by omega) ⟨?_, ⟨rfl, rfl, rfl, rfl, congrArg (fun V => Blk.arr 4 1 [.bool false, .bool B1, .bool B2, .bool B3, .bool B4, .bool B5, .bool B6, .bool B7, .bool B8, .bool B9, .bool B10, .bool B11, .bool V]) hA.symm, trivial⟩, rfl, rfl⟩
      ((repeat ((conv => whnf); first | refine ⟨e, ?_⟩ | refine ⟨rfl, ?_⟩)); trivial)
  · have h4 : k = us.length := by rw [ltI_f] at g1; omega
    subst h4
    subst hK
    rw [List.take_length, ← e12]
    ((repeat ((conv => whnf); first | refine brT ?_ | refine brF ?_)); conv => whnf)
    exact ⟨rfl, rfl, rfl, rfl, by simp⟩
end Go.Proofs.YtgkjafmmekjjlaaGreat


namespace Go.Proofs.YtgkjafmmekjjlaaGreat
open Go.Lg
set_option maxHeartbeats 3200000
set_option maxRecDepth 10000
set_option linter.unusedVariables false
set_option linter.unusedSimpArgs false

def boolsLV (row : List Bool) : LV := .sl (row.map bLV)
/-- The people of a row. -/
def listedTo (row : List Bool) (k : Nat) : List Int := ((List.range k).filter fun a => row.getD a false).map Int.ofNat
theorem listedTo_succ (row : List Bool) (k : Nat) : listedTo row (k + 1) = listedTo row k ++ (match row.getD k false with | true => [(k : Int)] | false => []) := by
  unfold listedTo
  rw [List.range_succ, List.filter_append, List.map_append]
  have hf : List.filter (fun a => row.getD a false) [k] = (match row.getD k false with | true => [k] | false => []) := by
    rw [List.filter_cons]
    show (if row.getD k false = true then [k] else []) = _
    cases row.getD k false <;> rfl
  rw [hf]
  cases row.getD k false <;> rfl
theorem listedTo_len (row : List Bool) (k : Nat) : (listedTo row k).length ≤ k := by
  unfold listedTo
  rw [List.length_map]
  exact Nat.le_trans (List.length_filter_le _ _) (by simp)
end Go.Proofs.YtgkjafmmekjjlaaGreat

namespace Go.Proofs.YtgkjafmmekjjlaaGreat
open Go.Lg Go.Pm
set_option maxHeartbeats 3200000
set_option maxRecDepth 10000
set_option linter.unusedVariables false
set_option linter.unusedSimpArgs false

theorem l3Listed_h (row : List Bool) (hN : row.length ≤ 1048576) : HSpec env.P 44 [boolsLV row] [] (.hs 0 ((listedTo row row.length).map intLV).length) [.arr 3 1 ((listedTo row row.length).map intLV)] := by
  refine HSpec_of_code (E := env.x [] 0) env_ok.x (fn := Tryz.f44) Tryz.func44 rfl Tryz.call44 _ _ _ _ ?_
  have er : (row.map bLV).length = row.length := List.length_map ..
  ((repeat ((conv => whnf); first | refine brT ?_ | refine brF ?_)); conv => whnf)
  intro hm
  ((repeat ((conv => whnf); first | refine brT ?_ | refine brF ?_)); conv => whnf)
  rw [er]
  refine loop_ruleR (α := Nat) [.old 0] (fun k => [(9, .int .i64 (k : Int)), (6, .undef), (3, .hs 0 ((listedTo row k).map intLV).length)]) (fun k => [.arr 3 1 ((listedTo row k).map intLV)]) (fun k => row.length - k) (fun k => k ≤ row.length) 0 (Nat.zero_le _) ?_ ?_
  · refine ⟨?_, ⟨rfl, rfl, trivial⟩, rfl⟩
    ((repeat ((conv => whnf); refine ⟨rfl, rfl, ?_⟩)); trivial)
  intro k hk
  ((repeat ((conv => whnf); first | refine brT ?_ | refine brF ?_)); conv => whnf)
  (refine ⟨fun h1 => ?_, fun h1 => ?_⟩ <;> rw [h1])
  · have hlt : k < row.length := by rw [ltI_t] at h1; omega
    have hll := listedTo_len row k
    have e := step_i hlt (by unfold Go.maxLen; omega)
    have hgd : row.getD k false = row[k] := by simp [hlt]
    have hsucc := listedTo_succ row k
    rw [hgd] at hsucc
    ((repeat ((conv => whnf); first | refine brT ?_ | refine brF ?_)); conv => whnf)
    refine ⟨k, bLV row[k], rfl, by simp [hlt], rfl, ?_⟩
    ((repeat ((conv => whnf); first | refine brT ?_ | refine brF ?_)); conv => whnf)
    (refine ⟨fun h3 => ?_, fun h3 => ?_⟩ <;> rw [h3])
    · have e2 : (listedTo row k).map intLV ++ [LV.int .i64 (k : Int)] = (listedTo row (k + 1)).map intLV := by rw [hsucc, h3, List.map_append]; rfl
      have e3 : LV.hs 0 ((listedTo row k).map intLV ++ [LV.int .i64 (k : Int)]).length = LV.hs 0 ((listedTo row (k + 1)).map intLV).length := by rw [e2]
      ((repeat ((conv => whnf); first | refine brT ?_ | refine brF ?_)); conv => whnf)
      refine ⟨rfl, rfl, ?_, ?_, ?_⟩
      · rw [List.length_append, List.length_map]; unfold Go.maxLen; simp; omega
      · rw [List.length_append, List.length_map]; simp; omega
      ((repeat ((conv => whnf); first | refine brT ?_ | refine brF ?_)); conv => whnf)
      refine round_endR [.old 2] (k + 1) hlt (by omega) ⟨?_, ⟨rfl, congrArg (Blk.arr 3 1) e2, trivial⟩, rfl⟩
      (repeat ((conv => whnf); first | refine ⟨rfl, e, ?_⟩ | refine ⟨rfl, e3, ?_⟩ | refine ⟨rfl, rfl, ?_⟩))
      trivial
    · have e2 : listedTo row k = listedTo row (k + 1) := by rw [hsucc, h3]; simp
      have e3 : LV.hs 0 ((listedTo row k).map intLV).length = LV.hs 0 ((listedTo row (k + 1)).map intLV).length := by rw [e2]
      ((repeat ((conv => whnf); first | refine brT ?_ | refine brF ?_)); conv => whnf)
      refine round_endR [.old 0] (k + 1) hlt (by omega) ⟨?_, ⟨rfl, by rw [e2]; rfl, trivial⟩, rfl⟩
      (repeat ((conv => whnf); first | refine ⟨rfl, e, ?_⟩ | refine ⟨rfl, e3, ?_⟩ | refine ⟨rfl, rfl, ?_⟩))
      trivial
  · have h3 : k = row.length := by rw [ltI_f] at h1; omega
    subst h3
    ((repeat ((conv => whnf); first | refine brT ?_ | refine brF ?_)); conv => whnf)
    exact ⟨[.hs 0 ((listedTo row row.length).map intLV).length], rfl, rfl, .inl ⟨⟨rfl, trivial⟩, ⟨rfl, trivial⟩, rfl, rfl⟩⟩
def barV (l : Lw) (ps : List Per) (us : List Uni) (a b : Nat) (y : Int) (x z : Per) : List Bool :=
  [notB (eqI x.sex 1) || notB (eqI z.sex 2), outL y x || outL y z, earlyL l y x || earlyL l y z, leI l.wives ((othersTo (keepAt ps y) a us us.length).length : Int), leI l.husbands ((othersTo (keepAt ps y) b us us.length).length : Int),
   leI 0 (upd ps a b) || leI 0 (upd ps b a), withinB l.degree (linksL ps us a b), canonB l.canon (linksL ps us a b), l.patri && eqI (foAt ps 1 a) (foAt ps 1 b), l.matri && eqI (foAt ps 2 a) (foAt ps 2 b),
   affL l ps us y a b || affL l ps us y b a, (othersTo yesU a us us.length).any fun v => eqI (b : Int) v]
def ixQ (V : List Bool) (n : Int) : Bool := V.getD (n.toNat - 1) false
theorem imp_list (B1 B2 B3 B4 B5 B6 B7 B8 B9 B10 B11 B12 : Bool) :
    listedTo [false, B1, B2, B3, B4, B5, B6, B7, B8, B9, B10, B11, B12] 13 = impTo (ixQ [B1, B2, B3, B4, B5, B6, B7, B8, B9, B10, B11, B12]) barsL 12 := by
  rw [listedTo_succ, listedTo_succ, listedTo_succ, listedTo_succ, listedTo_succ, listedTo_succ, listedTo_succ, listedTo_succ, listedTo_succ, listedTo_succ, listedTo_succ, listedTo_succ, listedTo_succ]
  rw [impTo_succ _ barsL (k := 11) (by decide), impTo_succ _ barsL (k := 10) (by decide), impTo_succ _ barsL (k := 9) (by decide), impTo_succ _ barsL (k := 8) (by decide), impTo_succ _ barsL (k := 7) (by decide), impTo_succ _ barsL (k := 6) (by decide),
    impTo_succ _ barsL (k := 5) (by decide), impTo_succ _ barsL (k := 4) (by decide), impTo_succ _ barsL (k := 3) (by decide), impTo_succ _ barsL (k := 2) (by decide), impTo_succ _ barsL (k := 1) (by decide), impTo_succ _ barsL (k := 0) (by decide)]
  rfl
theorem others_any (keep : Uni → Bool) (p : Int) (us : List Uni) (f : Int → Bool) : (othersTo keep p us us.length).any f = us.any fun u => (otherB p u && keep u) && f (otherV p u) := by
  unfold othersTo
  rw [List.take_length, List.any_flatMap]
  congr 1
  funext u
  rw [other_eq2]
  cases otherB p u && keep u <;> simp
theorem union_eq (a b : Int) (us : List Uni) : ((othersTo yesU a us us.length).any fun v => eqI b v) = us.any fun u => otherB a u && eqI (otherV a u) b := by
  rw [others_any]
  congr 1
  funext u
  rw [eqI_comm b]
  simp [yesU]
theorem aff_eq (l : Lw) (ps : List Per) (us : List Uni) (y p q : Int) : affL l ps us y p q = (notB (eqI l.affinity 0) && us.any (afP ps us p q y l.affinity)) := by
  unfold affL
  rw [others_any]
  cases h : eqI l.affinity 0 with
  | true =>
    rw [show notB true = false by simp [notB], Bool.false_and, List.any_eq_false]
    intro u _
    unfold kinQ withinB
    rw [h]
    simp
  | false =>
    rw [show notB false = true by simp [notB], Bool.true_and]
    congr 1
    funext u
    unfold kinQ withinB afP keepY closeB
    rw [h]
    cases otherB p u <;> cases leI u.since y <;> simp
theorem within_eq (n : Int) (L : List (Int × Int)) : withinB n L = (notB (eqI n 0) && closeB n L) := by
  unfold withinB closeB
  cases eqI n 0 <;> simp [notB]
theorem canon_eq (n : Int) (L : List (Int × Int)) : canonB n L = (notB (eqI n 0) && (lkB L && leI (cnR L) n)) := by
  unfold canonB
  cases eqI n 0 <;> simp [notB]
def impedL (l : Lw) (ps : List Per) (us : List Uni) (a b y : Int) : List Int := match lawOk l && (hasP ps us a && hasP ps us b) with
  | true => (match ps[a.toNat]?, ps[b.toNat]? with
    | some x, some z => impTo (ixQ (barV l ps us a.toNat b.toNat y x z)) barsL 12
    | _, _ => [])
  | false => []
theorem bars_all (l : Lw) (ps : List Per) (us : List Uni) (a b : Nat) (y : Int) (hf : famOk ps us = true) (ha : a < ps.length) (hb : b < ps.length) (pa : hasP ps us a = true) (pb : hasP ps us b = true) :
    ∀ x ∈ barsL, FSpec env.P x.2 [cLV l ps us (fos ps 1) (fos ps 2), mLV a b y] (.bool (ixQ (barV l ps us a b y ps[a] ps[b]) x.1)) := by
  have hh : (hasP ps us a && hasP ps us b) = true := by rw [pa, pb]; rfl
  have f1 := fos_get (ps := ps) (sx := 1) ha
  have f2 := fos_get (ps := ps) (sx := 1) hb
  have f3 := fos_get (ps := ps) (sx := 2) ha
  have f4 := fos_get (ps := ps) (sx := 2) hb
  have l1 : a < (fos ps 1).length := by rw [fos_len]; exact ha
  have l2 : b < (fos ps 1).length := by rw [fos_len]; exact hb
  have l3 : a < (fos ps 2).length := by rw [fos_len]; exact ha
  have l4 : b < (fos ps 2).length := by rw [fos_len]; exact hb
  rw [List.getElem?_eq_getElem l1, Option.some.injEq] at f1
  rw [List.getElem?_eq_getElem l2, Option.some.injEq] at f2
  rw [List.getElem?_eq_getElem l3, Option.some.injEq] at f3
  rw [List.getElem?_eq_getElem l4, Option.some.injEq] at f4
  have hp := patri_spec l ps us (fos ps 1) (fos ps 2) a b y l1 l2
  have hm := matri_spec l ps us (fos ps 1) (fos ps 2) a b y l3 l4
  rw [f1, f2] at hp
  rw [f3, f4] at hm
  intro x hx
  simp only [barsL, List.mem_cons, List.not_mem_nil, or_false] at hx
  rcases hx with rfl | rfl | rfl | rfl | rfl | rfl | rfl | rfl | rfl | rfl | rfl | rfl
  · exact wrongSex_spec l ps us _ _ a b y ha hb
  · exact outside_spec l ps us _ _ a b y ha hb
  · exact early_spec l ps us _ _ a b y ha hb
  · exact hasWives_spec l ps us _ _ a b y hf
  · exact hasHusbands_spec l ps us _ _ a b y hf
  · exact lineal_spec l ps us _ _ a b y hf ha hb
  · exact withinDegree_spec l ps us _ _ a b y hh
  · exact withinCanon_spec l ps us _ _ a b y hh
  · exact hp
  · exact hm
  · exact affine_spec l ps us _ _ a b y hf pa pb
  · exact isUnion_spec l ps us _ _ a b y hf
end Go.Proofs.YtgkjafmmekjjlaaGreat


namespace Go.Proofs.YtgkjafmmekjjlaaGreat
open Go.Lg Go.Pm
set_option maxHeartbeats 3200000
set_option maxRecDepth 10000
set_option linter.unusedVariables false
set_option linter.unusedSimpArgs false

theorem married_eq {ps : List Per} {us : List Uni} {p : Int} (h : hasP ps us p = true) (y : Int) : marriedL ps us p y = othersTo (keepAt ps y) p us us.length := by
  unfold marriedL; rw [h]
theorem bars_of (l : Lw) (ps : List Per) (us : List Uni) (n m : Nat) (y : Int) (pa : hasP ps us n = true) (pb : hasP ps us m = true) : ∃ x z, ps[n]? = some x ∧ ps[m]? = some z ∧
    FSpec env.P 45 [famLV ps us, l.lv, .int .i64 (n : Int), .int .i64 (m : Int), .int .i64 y] (.own 4 1 ((false :: barV l ps us n m y x z).map bLV)) := by
  obtain ⟨a0, al, hl, hpi⟩ := hasP_in pa
  obtain ⟨b0, bl, _, _⟩ := hasP_in pb
  have hf := (hasP_lt pa).2.2
  have hsh := fam_sh hf
  simp only [Int.toNat_natCast] at al bl
  refine ⟨ps[n], ps[m], List.getElem?_eq_getElem al, List.getElem?_eq_getElem bl, ?_⟩
  have hm1 := marriedAt_spec ps us n y
  have hm2 := marriedAt_spec ps us m y
  rw [married_eq pa] at hm1
  rw [married_eq pb] at hm2
  obtain ⟨ld, lc, la, lg, lw, lh, lp, lm⟩ := l
  exact bars9_spec ps us ld lc la lg lw lh lp lm n m y ps[n] ps[m] 0 0 (upd ps n m) (upd ps m n) (foAt ps 1 n) (foAt ps 1 m) (foAt ps 2 n) (foAt ps 2 m) (cnR (linksL ps us n m)) (lkB (linksL ps us n m)) (closeB ld (linksL ps us n m)) _
    (us.any (afP ps us n m y la)) (us.any (afP ps us m n y la)) (per_get al) (per_get bl) _ _ _ _ hm1 hm2 (up_f ps us hl hpi hsh n al) (up_f ps us hl hpi hsh m bl) (upRow_get bl) (upRow_get al)
    (close_spec ps us n m ld) (canon_spec ps us n m) (l7Founder_spec ps us n 1 (.inl rfl) hpi al) (l7Founder_spec ps us m 1 (.inl rfl) hpi bl) (l7Founder_spec ps us n 2 (.inr rfl) hpi al) (l7Founder_spec ps us m 2 (.inr rfl) hpi bl)
    (affine9_spec ps us n m y la (famOk_parts hf).2.1) (affine9_spec ps us m n y la (famOk_parts hf).2.1) (famOk_parts hf).2.1 (union_eq n m us)
    rfl rfl rfl rfl rfl rfl (within_eq ld _) (canon_eq lc _) rfl rfl (by rw [aff_eq, aff_eq]; cases notB (eqI la 0) <;> simp)
theorem imped_spec (l : Lw) (ps : List Per) (us : List Uni) (a b y : Int) :
    HSpec env.P 10 [famLV ps us, l.lv, .int .i64 a, .int .i64 b, .int .i64 y] [] (.hs 0 ((impedL l ps us a b y).map intLV).length) [.arr 3 1 ((impedL l ps us a b y).map intLV)] := by
  have h1 := isLaw_spec l
  have hB := fun n m pa pb => bars_of l ps us n m y pa pb
  unfold impedL
  refine HSpec_of_code (E := env.x [44] 0) env_ok.x (fn := Tryz.f10) Tryz.func10 rfl Tryz.call10 _ _ _ _ ?_
  have fin0 : ∀ (LL : LV), True := fun _ => trivial
  obtain ⟨ld, lc, la, lg, lw, lh, lp, lm⟩ := l
  ((repeat ((conv => whnf); first | refine brT ?_ | refine brF ?_)); conv => whnf)
  refine ⟨_, h1, ?_⟩
  ((repeat ((conv => whnf); first | refine brT ?_ | refine brF ?_)); conv => whnf)
  cases hL : lawOk _
  · rw [show notB false = true by simp [notB]]
    ((repeat ((conv => whnf); first | refine brT ?_ | refine brF ?_)); conv => whnf)
    exact ⟨[.hs 0 0], rfl, rfl, .nl [.tmp 0 [] false 3 1] [.old 2] ⟨⟨rfl, rfl, trivial⟩, ⟨rfl, rfl, trivial⟩, rfl⟩⟩
  rw [show notB true = false by simp [notB]]
  ((repeat ((conv => whnf); first | refine brT ?_ | refine brF ?_)); conv => whnf)
  refine ⟨_, l1Has_spec ps us a, ?_⟩
  ((repeat ((conv => whnf); first | refine brT ?_ | refine brF ?_)); conv => whnf)
  cases pa : hasP ps us a
  · rw [show notB false = true by simp [notB]]
    ((repeat ((conv => whnf); first | refine brT ?_ | refine brF ?_)); conv => whnf)
    exact ⟨[.hs 0 0], rfl, rfl, .nl [.tmp 0 [] false 3 1] [.old 2] ⟨⟨rfl, rfl, trivial⟩, ⟨rfl, rfl, trivial⟩, rfl⟩⟩
  rw [show notB true = false by simp [notB]]
  ((repeat ((conv => whnf); first | refine brT ?_ | refine brF ?_)); conv => whnf)
  refine ⟨_, l1Has_spec ps us b, ?_⟩
  ((repeat ((conv => whnf); first | refine brT ?_ | refine brF ?_)); conv => whnf)
  cases pb : hasP ps us b
  · rw [show notB false = true by simp [notB]]
    ((repeat ((conv => whnf); first | refine brT ?_ | refine brF ?_)); conv => whnf)
    exact ⟨[.hs 0 0], rfl, rfl, .nl [.tmp 0 [] false 3 1] [.old 2] ⟨⟨rfl, rfl, trivial⟩, ⟨rfl, rfl, trivial⟩, rfl⟩⟩
  rw [show notB true = false by simp [notB]]
  have a0 := (hasP_lt pa).1
  have b0 := (hasP_lt pb).1
  obtain ⟨n, rfl⟩ : ∃ n : Nat, a = (n : Int) := ⟨a.toNat, by omega⟩
  obtain ⟨m, rfl⟩ : ∃ m : Nat, b = (m : Int) := ⟨b.toNat, by omega⟩
  obtain ⟨x, z, hx, hz, hb⟩ := hB n m pa pb
  rw [Int.toNat_natCast, Int.toNat_natCast, hx, hz]
  have hli := l3Listed_h (false :: barV ⟨ld, lc, la, lg, lw, lh, lp, lm⟩ ps us n m y x z) (by simp [barV])
  have hlist : listedTo (false :: barV ⟨ld, lc, la, lg, lw, lh, lp, lm⟩ ps us n m y x z) (false :: barV ⟨ld, lc, la, lg, lw, lh, lp, lm⟩ ps us n m y x z).length = impTo (ixQ (barV ⟨ld, lc, la, lg, lw, lh, lp, lm⟩ ps us n m y x z)) barsL 12 := imp_list _ _ _ _ _ _ _ _ _ _ _ _
  rw [hlist] at hli
  generalize hR : impTo _ barsL 12 = R at hli
  generalize (false :: barV _ ps us n m y x z) = V at hb hli
  unfold boolsLV at hli
  ((repeat ((conv => whnf); first | refine brT ?_ | refine brF ?_)); conv => whnf)
  refine ⟨_, hb, ?_⟩
  ((repeat ((conv => whnf); first | refine brT ?_ | refine brF ?_)); conv => whnf)
  refine ⟨[], _, _, _, _, hli, rfl, rfl, rfl, trivial, ?_⟩
  ((repeat ((conv => whnf); first | refine brT ?_ | refine brF ?_)); conv => whnf)
  subst hR
  exact ⟨[.hs 0 _], rfl, rfl, .inr ⟨[.old 2], ⟨rfl, rfl, trivial⟩, ⟨rfl, rfl, trivial⟩, rfl⟩⟩
end Go.Proofs.YtgkjafmmekjjlaaGreat


namespace Go.Proofs.YtgkjafmmekjjlaaGreat
open Go.Lg Go.Pm
set_option maxHeartbeats 3200000
set_option maxRecDepth 10000
set_option linter.unusedVariables false
set_option linter.unusedSimpArgs false

/-! ### May they marry? -/
def mayB (l : Lw) (ps : List Per) (us : List Uni) (a b y : Int) : Bool := lawOk l && ((hasP ps us a && hasP ps us b) && eqI ((impedL l ps us a b y).length : Int) 0)
theorem may_spec (l : Lw) (ps : List Per) (us : List Uni) (a b y : Int) : FSpec env.P 19 [famLV ps us, l.lv, .int .i64 a, .int .i64 b, .int .i64 y] (.bool (mayB l ps us a b y)) := by
  have h1 := isLaw_spec l
  have h2 := ints_f (imped_spec l ps us a b y)
  unfold mayB
  generalize impedL l ps us a b y = R at h2 ⊢
  have hR : ((R.map intLV).length : Int) = (R.length : Int) := by simp
  generalize lawOk l = L at h1 ⊢
  obtain ⟨ld, lc, la, lg, lw, lh, lp, lm⟩ := l
  refine FSpec_of_code env_ok (fn := Tryz.f19) Tryz.func19 rfl Tryz.call19 _ _ ?_
  ((repeat ((conv => whnf); first | refine brT ?_ | refine brF ?_)); conv => whnf)
  refine ⟨_, h1, ?_⟩
  ((repeat ((conv => whnf); first | refine brT ?_ | refine brF ?_)); conv => whnf)
  cases L
  · ((repeat ((conv => whnf); first | refine brT ?_ | refine brF ?_)); conv => whnf)
    exact fin rfl
  ((repeat ((conv => whnf); first | refine brT ?_ | refine brF ?_)); conv => whnf)
  refine ⟨_, l1Has_spec ps us a, ?_⟩
  ((repeat ((conv => whnf); first | refine brT ?_ | refine brF ?_)); conv => whnf)
  cases pa : hasP ps us a
  · ((repeat ((conv => whnf); first | refine brT ?_ | refine brF ?_)); conv => whnf)
    exact fin rfl
  ((repeat ((conv => whnf); first | refine brT ?_ | refine brF ?_)); conv => whnf)
  refine ⟨_, l1Has_spec ps us b, ?_⟩
  ((repeat ((conv => whnf); first | refine brT ?_ | refine brF ?_)); conv => whnf)
  cases pb : hasP ps us b
  · ((repeat ((conv => whnf); first | refine brT ?_ | refine brF ?_)); conv => whnf)
    exact fin rfl
  ((repeat ((conv => whnf); first | refine brT ?_ | refine brF ?_)); conv => whnf)
  refine ⟨_, h2, ?_⟩
  rw [show flatT (rowOw R) = true from flat_ints R]
  ((repeat ((conv => whnf); first | refine brT ?_ | refine brF ?_)); conv => whnf)
  intro _
  ((repeat ((conv => whnf); first | refine brT ?_ | refine brF ?_)); conv => whnf)
  rw [hR]
  exact fin rfl
end Go.Proofs.YtgkjafmmekjjlaaGreat

