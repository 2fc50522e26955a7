/- Contracts of functions of the program and of its model, told over readings. -/
import Derived.Test.YtpfipmjmblgjfaaEPD
import Derived.Test.YtpfipmjmblgjfaaELgRN
import Derived.Test.YtpfipmjmblgjfaaELgRM
namespace Go.Proofs.Ytpfipmjmblgjfaa
open Go.Lg Go.Pm
set_option maxHeartbeats 6400000
set_option maxRecDepth 10000
set_option linter.unusedVariables false
set_option linter.unusedSimpArgs false

def kindAt (ss : List Pr) (k : Nat) : Int := match ss[k]? with | some s => s.a | none => 0
theorem kindAt_get {ss : List Pr} {k : Nat} (h : k < ss.length) : kindAt ss k = ss[k].a := by simp [kindAt, h]
/-- The first k steps. -/
def tpTo (w c : List Int) (e : Int) (ss : List Pr) : Nat → List Int
  | 0 => unit w.length
  | k + 1 => cmpL (tpTo w c e ss k) (stpL w c (kindAt ss k) (sexAt e ss k))
def okTP (w c : List Int) (e : Int) (ss : List Pr) : Bool := clsB w c && (typB e ss && notB (ltI 0 (ss.length : Int) && eqI (egoT e ss) 0))
def tpL (w c : List Int) (e : Int) (ss : List Pr) : List Int := match okTP w c e ss with | true => tpTo w c (egoT e ss) ss ss.length | false => []
theorem tp_perm {w c : List Int} (hc : clsB w c = true) (e : Int) (ss : List Pr) : ∀ k, permB (tpTo w c e ss k) = true ∧ (tpTo w c e ss k).length = w.length
  | 0 => ⟨perm_unit _, unit_len _⟩
  | k + 1 => by
    obtain ⟨h1, h2⟩ := tp_perm hc e ss k
    obtain ⟨h3, h4⟩ := stp_perm hc (kindAt ss k) (sexAt e ss k)
    have e1 : cmpB (tpTo w c e ss k) (stpL w c (kindAt ss k) (sexAt e ss k)) = true := by unfold cmpB; rw [h1, h3, h2, h4, eqI_refl]; rfl
    simp only [tpTo, cmpL, e1]
    exact ⟨perm_cmp h1 h3 (by omega), by rw [cmp_len]; exact h2⟩
theorem typB_len {e : Int} {ss : List Pr} (h : typB e ss = true) : ss.length ≤ 8 := by
  unfold typB at h
  simp only [Bool.and_eq_true, leI_t] at h
  omega
def tpHS (w c : List Int) (e : Int) (ss : List Pr) : LV := .tup [.hs 0 ((tpL w c e ss).map intLV).length, .bool (okTP w c e ss)]
theorem typePerm_impl (w c : List Int) (e : Int) (ss : List Pr) (h1 : w.length ≤ 1048576) (h2 : c.length ≤ 1048576) : HSpec env.P 52 [clsLV w c, typLV e ss] [] (tpHS w c e ss) [.arr 3 1 ((tpL w c e ss).map intLV)] := by
  refine HSpec_of_code (E := env.x [115, 33] 0) env_ok.x (fn := Try.f52) Try.func52 rfl Try.call52 _ _ _ _ ?_
  have no : okTP w c e ss = false → tpHS w c e ss = .tup [.hs 0 0, .bool false] ∧ ((tpL w c e ss).map intLV) = [] := fun h => by
    unfold tpHS tpL; rw [h]; exact ⟨rfl, rfl⟩
  have bad : okTP w c e ss = false → tpHS w c e ss = .tup [.hs 0 0, .bool false] := fun h => (no h).1
  ((repeat ((conv => whnf); first | refine brT ?_ | refine brF ?_)); conv => whnf)
  refine ⟨_, egoOfType_impl e ss, ?_⟩
  ((repeat ((conv => whnf); first | refine brT ?_ | refine brF ?_)); conv => whnf)
  refine ⟨_, isClasses_impl w c h1 h2, ?_⟩
  ((repeat ((conv => whnf); first | refine brT ?_ | refine brF ?_)); conv => whnf)
  (refine ⟨fun g1 => ?_, fun g1 => ?_⟩ <;> rw [g1])
  · rw [notB_t] at g1
    obtain ⟨n1, n2⟩ := no (by unfold okTP; rw [g1]; rfl)
    rw [n1, n2]
    ((repeat ((conv => whnf); first | refine brT ?_ | refine brF ?_)); conv => whnf)
    exact ⟨[.hs 0 0, .bool false], rfl, rfl, .nl [.tmp 0 [] false 3 1] [.old 2] ⟨⟨rfl, rfl, rfl, rfl, trivial⟩, ⟨rfl, rfl, trivial⟩, rfl⟩⟩
  rw [notB_f] at g1
  ((repeat ((conv => whnf); first | refine brT ?_ | refine brF ?_)); conv => whnf)
  refine ⟨_, isType_impl e ss, ?_⟩
  ((repeat ((conv => whnf); first | refine brT ?_ | refine brF ?_)); conv => whnf)
  (refine ⟨fun g2 => ?_, fun g2 => ?_⟩ <;> rw [g2])
  · rw [notB_t] at g2
    obtain ⟨n1, n2⟩ := no (by unfold okTP; rw [g1, g2]; rfl)
    rw [n1, n2]
    ((repeat ((conv => whnf); first | refine brT ?_ | refine brF ?_)); conv => whnf)
    exact ⟨[.hs 0 0, .bool false], rfl, rfl, .nl [.tmp 0 [] false 3 1] [.old 2] ⟨⟨rfl, rfl, rfl, rfl, trivial⟩, ⟨rfl, rfl, trivial⟩, rfl⟩⟩
  rw [notB_f] at g2
  have hego : egoR e ss = egoT e ss := by unfold egoR; rw [g2]
  rw [hego]
  ((repeat ((conv => whnf); first | refine brT ?_ | refine brF ?_)); conv => whnf)
  intro _
  have hl0 : ((ss.map Pr.lv).length : Int) = (ss.length : Int) := by simp
  rw [hl0]
  have hs8 := typB_len g2
  ((repeat ((conv => whnf); first | refine brT ?_ | refine brF ?_)); conv => whnf)
  have end_ : ∀ {T : Prop}, T → T := fun h => h
  cases gg : (ltI 0 (ss.length : Int) && eqI (egoT e ss) 0) with
  | true =>
    have gg' := gg
    simp only [Bool.and_eq_true] at gg'
    obtain ⟨n1, n2⟩ := no (by unfold okTP; rw [g1, g2, gg]; simp [notB])
    rw [n1, n2, gg'.1]
    ((repeat ((conv => whnf); first | refine brT ?_ | refine brF ?_)); conv => whnf)
    rw [gg'.2]
    ((repeat ((conv => whnf); first | refine brT ?_ | refine brF ?_)); conv => whnf)
    exact ⟨[.hs 0 0, .bool false], rfl, rfl, .nl [.tmp 0 [] false 3 1] [.old 2] ⟨⟨rfl, rfl, rfl, rfl, trivial⟩, ⟨rfl, rfl, trivial⟩, rfl⟩⟩
  | false =>
  have ok : okTP w c e ss = true := by unfold okTP; rw [g1, g2, gg]; simp [notB]
  have eT : tpL w c e ss = tpTo w c (egoT e ss) ss ss.length := by unfold tpL; rw [ok]
  unfold tpHS
  rw [eT, ok]
  have hp := tp_perm g1 (egoT e ss) ss
  generalize egoT e ss = eg at gg hp ⊢
  have hK8 : (sexTo eg ss ss.length).length = ss.length := sexTo_len _ _ _
  have hls : (((sexTo eg ss ss.length).map intLV).length : Int) = (ss.length : Int) := by rw [List.length_map, hK8]
  (refine ⟨fun h3 => ?_, fun h3 => ?_⟩ <;> rw [h3])
  · rw [h3, Bool.true_and] at gg
    ((repeat ((conv => whnf); first | refine brT ?_ | refine brF ?_)); conv => whnf)
    rw [gg]
    ((repeat ((conv => whnf); first | refine brT ?_ | refine brF ?_)); conv => whnf)
    intro _
    rw [show (w.map intLV).length = w.length from List.length_map ..]
    ((repeat ((conv => whnf); first | refine brT ?_ | refine brF ?_)); conv => whnf)
    refine ⟨[], _, _, _, _, identity_h w.length h1, rfl, rfl, rfl, trivial, ?_⟩
    ((repeat ((conv => whnf); first | refine brT ?_ | refine brF ?_)); conv => whnf)
    refine ⟨_, sexesFrom_f eg ss hs8, ?_⟩
    ((repeat ((conv => whnf); first | refine brT ?_ | refine brF ?_)); conv => whnf)
    intro _
    ((repeat ((conv => whnf); first | refine brT ?_ | refine brF ?_)); conv => whnf)
    rw [hls]
    refine loop_ruleR (α := Nat) [.old 0, .old 1, .old 2] (fun k => [(39, .int .i64 (k : Int)), (7, .hs 2 ((tpTo w c eg ss k).map intLV).length), (33, .undef)]) (fun k => [.box (clsLV w c), .box (typLV e ss), .arr 3 1 ((tpTo w c eg ss k).map intLV)]) (fun k => ss.length - k) (fun k => k ≤ ss.length) 0 (Nat.zero_le _) ?_ ?_
    · refine ⟨?_, ⟨rfl, rfl, rfl, rfl, rfl, rfl, trivial⟩, rfl⟩
      ((repeat ((conv => whnf); refine ⟨rfl, rfl, ?_⟩)); trivial)
    intro k hk
    have hpk := hp k
    have eS : tpTo w c eg ss (k + 1) = cmpL (tpTo w c eg ss k) (stpL w c (kindAt ss k) (sexAt eg ss k)) := rfl
    generalize hT : tpTo w c eg ss k = T at hpk eS ⊢
    ((repeat ((conv => whnf); first | refine brT ?_ | refine brF ?_)); conv => whnf)
    (refine ⟨fun h4 => ?_, fun h4 => ?_⟩ <;> rw [h4])
    · have hlt : k < ss.length := by rw [ltI_t] at h4; simp at h4; omega
      have e1 := step_i hlt (by unfold Go.maxLen; omega)
      have hg : ((sexTo eg ss ss.length).map intLV)[k]? = some (intLV (sexAt eg ss k)) := by rw [List.getElem?_map, sexTo_get hlt]; rfl
      rw [kindAt_get hlt] at eS
      have hst := step_f w c ss[k] (sexAt eg ss k) h1 h2
      have hsl := (stp_perm g1 ss[k].a (sexAt eg ss k)).2
      generalize stpL w c ss[k].a (sexAt eg ss k) = R at eS hst hsl
      have hcm := compose_impl T R (by omega) (by omega)
      rw [← eS] at hcm
      generalize hU : tpTo w c eg ss (k + 1) = U at hcm
      have e2 : LV.hs 2 (U.map intLV).length = LV.hs 2 ((tpTo w c eg ss (k + 1)).map intLV).length := by rw [hU]
      ((repeat ((conv => whnf); first | refine brT ?_ | refine brF ?_)); conv => whnf)
      refine ⟨k, _, rfl, hg, rfl, ?_⟩
      ((repeat ((conv => whnf); first | refine brT ?_ | refine brF ?_)); conv => whnf)
      refine ⟨false, 0, 0, 1, [0, 1, 2, 3, 4, 5, 6, 7], (.one 8 (.one 9 (.one 10 .done))), by kernel_rfl, by kernel_rfl, ?_⟩
      ((repeat ((conv => whnf); first | refine brT ?_ | refine brF ?_)); conv => whnf)
      refine ⟨k, ss[k].lv, rfl, by simp [hlt], rfl, ?_⟩
      ((repeat ((conv => whnf); first | refine brT ?_ | refine brF ?_)); conv => whnf)
      apply Exists.intro
      apply Exists.intro
      refine And.intro ?_ ?_
      · refine ⟨_, hst, ?_⟩
        ((repeat ((conv => whnf); first | refine brT ?_ | refine brF ?_)); conv => whnf)
        refine ⟨_, _, _, _, hcm, rfl, rfl, rfl, rfl, ⟨rfl, flats_ints _, trivial⟩, ?_⟩
        ((repeat ((conv => whnf); first | refine brT ?_ | refine brF ?_)); conv => whnf)
        refine Weak.idn ?_ ?_ rfl
        · ((repeat ((conv => whnf); refine ⟨rfl, ?_⟩)); trivial)
        · exact ⟨rfl, rfl, rfl, rfl, trivial⟩
      ((repeat ((conv => whnf); first | refine brT ?_ | refine brF ?_)); conv => whnf)
      refine round_endR [.old 0, .old 1, .old 3] (k + 1) hlt (by omega) ⟨?_, ⟨rfl, rfl, rfl, rfl, rfl, by rw [hU]; rfl, trivial⟩, rfl⟩
      repeat ((conv => whnf); first | refine ⟨rfl, e1, ?_⟩ | refine ⟨rfl, e2, ?_⟩ | refine ⟨rfl, rfl, ?_⟩)
      trivial
    · have h5 : k = ss.length := by rw [ltI_f] at h4; simp at h4; omega
      subst h5
      subst hT
      ((repeat ((conv => whnf); first | refine brT ?_ | refine brF ?_)); conv => whnf)
      exact ⟨[.hs 0 ((tpTo w c eg ss ss.length).map intLV).length, .bool true], rfl, rfl, .inr ⟨[.old 2], ⟨rfl, rfl, rfl, rfl, trivial⟩, ⟨rfl, rfl, trivial⟩, rfl⟩⟩
  · ((repeat ((conv => whnf); first | refine brT ?_ | refine brF ?_)); conv => whnf)
    intro _
    rw [show (w.map intLV).length = w.length from List.length_map ..]
    ((repeat ((conv => whnf); first | refine brT ?_ | refine brF ?_)); conv => whnf)
    refine ⟨[], _, _, _, _, identity_h w.length h1, rfl, rfl, rfl, trivial, ?_⟩
    ((repeat ((conv => whnf); first | refine brT ?_ | refine brF ?_)); conv => whnf)
    refine ⟨_, sexesFrom_f eg ss hs8, ?_⟩
    ((repeat ((conv => whnf); first | refine brT ?_ | refine brF ?_)); conv => whnf)
    intro _
    ((repeat ((conv => whnf); first | refine brT ?_ | refine brF ?_)); conv => whnf)
    rw [hls]
    refine loop_ruleR (α := Nat) [.old 0, .old 1, .old 2] (fun k => [(39, .int .i64 (k : Int)), (7, .hs 2 ((tpTo w c eg ss k).map intLV).length), (33, .undef)]) (fun k => [.box (clsLV w c), .box (typLV e ss), .arr 3 1 ((tpTo w c eg ss k).map intLV)]) (fun k => ss.length - k) (fun k => k ≤ ss.length) 0 (Nat.zero_le _) ?_ ?_
    · refine ⟨?_, ⟨rfl, rfl, rfl, rfl, rfl, rfl, trivial⟩, rfl⟩
      ((repeat ((conv => whnf); refine ⟨rfl, rfl, ?_⟩)); trivial)
    intro k hk
    have hpk := hp k
    have eS : tpTo w c eg ss (k + 1) = cmpL (tpTo w c eg ss k) (stpL w c (kindAt ss k) (sexAt eg ss k)) := rfl
    generalize hT : tpTo w c eg ss k = T at hpk eS ⊢
    ((repeat ((conv => whnf); first | refine brT ?_ | refine brF ?_)); conv => whnf)
    (refine ⟨fun h4 => ?_, fun h4 => ?_⟩ <;> rw [h4])
    · have hlt : k < ss.length := by rw [ltI_t] at h4; simp at h4; omega
      have e1 := step_i hlt (by unfold Go.maxLen; omega)
      have hg : ((sexTo eg ss ss.length).map intLV)[k]? = some (intLV (sexAt eg ss k)) := by rw [List.getElem?_map, sexTo_get hlt]; rfl
      rw [kindAt_get hlt] at eS
      have hst := step_f w c ss[k] (sexAt eg ss k) h1 h2
      have hsl := (stp_perm g1 ss[k].a (sexAt eg ss k)).2
      generalize stpL w c ss[k].a (sexAt eg ss k) = R at eS hst hsl
      have hcm := compose_impl T R (by omega) (by omega)
      rw [← eS] at hcm
      generalize hU : tpTo w c eg ss (k + 1) = U at hcm
      have e2 : LV.hs 2 (U.map intLV).length = LV.hs 2 ((tpTo w c eg ss (k + 1)).map intLV).length := by rw [hU]
      ((repeat ((conv => whnf); first | refine brT ?_ | refine brF ?_)); conv => whnf)
      refine ⟨k, _, rfl, hg, rfl, ?_⟩
      ((repeat ((conv => whnf); first | refine brT ?_ | refine brF ?_)); conv => whnf)
      refine ⟨false, 0, 0, 1, [0, 1, 2, 3, 4, 5, 6, 7], (.one 8 (.one 9 (.one 10 .done))), by kernel_rfl, by kernel_rfl, ?_⟩
      ((repeat ((conv => whnf); first | refine brT ?_ | refine brF ?_)); conv => whnf)
      refine ⟨k, ss[k].lv, rfl, by simp [hlt], rfl, ?_⟩
      ((repeat ((conv => whnf); first | refine brT ?_ | refine brF ?_)); conv => whnf)
      apply Exists.intro
      apply Exists.intro
      refine And.intro ?_ ?_
      · refine ⟨_, hst, ?_⟩
        ((repeat ((conv => whnf); first | refine brT ?_ | refine brF ?_)); conv => whnf)
        refine ⟨_, _, _, _, hcm, rfl, rfl, rfl, rfl, ⟨rfl, flats_ints _, trivial⟩, ?_⟩
        ((repeat ((conv => whnf); first | refine brT ?_ | refine brF ?_)); conv => whnf)
        refine Weak.idn ?_ ?_ rfl
        · ((repeat ((conv => whnf); refine ⟨rfl, ?_⟩)); trivial)
        · exact ⟨rfl, rfl, rfl, rfl, trivial⟩
      ((repeat ((conv => whnf); first | refine brT ?_ | refine brF ?_)); conv => whnf)
      refine round_endR [.old 0, .old 1, .old 3] (k + 1) hlt (by omega) ⟨?_, ⟨rfl, rfl, rfl, rfl, rfl, by rw [hU]; rfl, trivial⟩, rfl⟩
      repeat ((conv => whnf); first | refine ⟨rfl, e1, ?_⟩ | refine ⟨rfl, e2, ?_⟩ | refine ⟨rfl, rfl, ?_⟩)
      trivial
    · have h5 : k = ss.length := by rw [ltI_f] at h4; simp at h4; omega
      subst h5
      subst hT
      ((repeat ((conv => whnf); first | refine brT ?_ | refine brF ?_)); conv => whnf)
      exact ⟨[.hs 0 ((tpTo w c eg ss ss.length).map intLV).length, .bool true], rfl, rfl, .inr ⟨[.old 2], ⟨rfl, rfl, rfl, rfl, trivial⟩, ⟨rfl, rfl, trivial⟩, rfl⟩⟩
end Go.Proofs.Ytpfipmjmblgjfaa

namespace Go.Proofs.Ytpfipmjmblgjfaa
open Go.Lg Go.Pm
set_option maxHeartbeats 6400000
set_option maxRecDepth 10000
set_option linter.unusedVariables false
set_option linter.unusedSimpArgs false

def atV (w c : List Int) (e : Int) (ss : List Pr) (x : Int) : Nat → Int
  | 0 => x
  | k + 1 => stpV w c (kindAt ss k) (sexAt e ss k) (atV w c e ss x k)
theorem sxOf_12 (k : Int) : sxOf k = 1 ∨ sxOf k = 2 := by unfold sxOf; split <;> simp
theorem sexAt_12 {e : Int} {ss : List Pr} (he : e = 1 ∨ e = 2) : ∀ k, k ≤ ss.length → sexAt e ss k = 1 ∨ sexAt e ss k = 2
  | 0, _ => he
  | k + 1, h => by rw [sexAt_succ (by omega)]; exact sxOf_12 _
theorem atV_tp {w c : List Int} (hc : clsB w c = true) {e : Int} {ss : List Pr} (he : ∀ k, k < ss.length → sexAt e ss k = 1 ∨ sexAt e ss k = 2) {x : Nat} (hx : x < w.length) : ∀ k, k ≤ ss.length → atV w c e ss x k = (tpTo w c e ss k).getD x 0 ∧ 0 ≤ atV w c e ss x k ∧ (atV w c e ss x k).toNat < w.length
  | 0, _ => by
    have : (unit w.length).getD x 0 = (x : Int) := by rw [getD_lt (by rw [unit_len]; exact hx)]; simp [unit]
    simp only [atV, tpTo]
    exact ⟨this.symm, by omega, by omega⟩
  | k + 1, h => by
    obtain ⟨i1, i2, i3⟩ := atV_tp hc he hx k (by omega)
    obtain ⟨p1, p2⟩ := tp_perm hc e ss k
    obtain ⟨p3, p4⟩ := stp_perm hc (kindAt ss k) (sexAt e ss k)
    have e1 : cmpB (tpTo w c e ss k) (stpL w c (kindAt ss k) (sexAt e ss k)) = true := by unfold cmpB; rw [p1, p3, p2, p4, eqI_refl]; rfl
    have hs := stp_same hc (kindAt ss k) (sexAt e ss k) (he k (by omega)) i2 i3
    have hn := perm_in p3 (show (atV w c e ss x k).toNat < (stpL w c (kindAt ss k) (sexAt e ss k)).length by omega)
    simp only [atV, tpTo, cmpL, e1]
    rw [cmp_getD (by omega), ← i1, hs]
    refine ⟨rfl, ?_⟩
    rw [getD_lt (by omega)]
    omega
theorem l6Type_h (w c : List Int) (e : Int) (ss : List Pr) (hc : clsB w c = true) (h8 : ss.length ≤ 8) (he : ∀ k, k < ss.length → sexAt (egoT e ss) ss k = 1 ∨ sexAt (egoT e ss) ss k = 2) :
    HSpec env.P 111 [clsLV w c, typLV e ss] [] (.hs 0 ((tpTo w c (egoT e ss) ss ss.length).map intLV).length) [.arr 3 1 ((tpTo w c (egoT e ss) ss ss.length).map intLV)] := by
  refine HSpec_of_code (E := env.x [] 0) env_ok.x (fn := Try.f111) Try.func111 rfl Try.call111 _ _ _ _ ?_
  obtain ⟨n1, n8, hl, pw, pc⟩ := clsB_at hc
  have hW : (w.map intLV).length = w.length := List.length_map ..
  have hS : (ss.map Pr.lv).length = ss.length := List.length_map ..
  have hp' : w.length ≤ Go.maxLen := by unfold Go.maxLen; omega
  have hego := l3Ego_spec e ss
  generalize egoT e ss = eg at he hego ⊢
  obtain ⟨T, hT⟩ : ∃ T, T = tpTo w c eg ss ss.length := ⟨_, rfl⟩
  rw [← hT]
  have hTl : T.length = w.length := by rw [hT]; exact (tp_perm hc eg ss ss.length).2
  ((repeat ((conv => whnf); first | refine brT ?_ | refine brF ?_)); conv => whnf)
  intro _
  ((repeat ((conv => whnf); first | refine brT ?_ | refine brF ?_)); conv => whnf)
  rw [hW]
  refine loop_ruleR (α := Nat) [.old 0, .old 1, .old 2] (fun x => [(15, .int .i64 (x : Int)), (11, .undef), (5, .hs 2 ((T.take x).map intLV).length)]) (fun x => [.box (clsLV w c), .box (typLV e ss), .arr 3 1 ((T.take x).map intLV)]) (fun x => w.length - x) (fun x => x ≤ w.length) 0 (Nat.zero_le _) ?_ ?_
  · refine ⟨?_, ⟨rfl, rfl, rfl, rfl, rfl, rfl, trivial⟩, rfl⟩
    ((repeat ((conv => whnf); refine ⟨rfl, rfl, ?_⟩)); trivial)
  intro x hx
  generalize hK : kk _ = KK
  ((repeat ((conv => whnf); first | refine brT ?_ | refine brF ?_)); conv => whnf)
  (refine ⟨fun h1 => ?_, fun h1 => ?_⟩ <;> rw [h1])
  · have hlt : x < w.length := by rw [ltI_t] at h1; simp at h1; omega
    have e1 := step_i hlt hp'
    ((repeat ((conv => whnf); first | refine brT ?_ | refine brF ?_)); conv => whnf)
    refine ⟨_, hego, ?_⟩
    ((repeat ((conv => whnf); first | refine brT ?_ | refine brF ?_)); conv => whnf)
    intro _
    ((repeat ((conv => whnf); first | refine brT ?_ | refine brF ?_)); conv => whnf)
    rw [hS]
    refine loop_ruleR (α := Nat) [.old 0, .old 1, .old 2] (fun k => [(24, .int .i64 (k : Int)), (7, .int .i64 (sexAt eg ss k)), (8, .int .i64 (atV w c eg ss x k)), (10, .undef)]) (fun k => [.box (clsLV w c), .box (typLV e ss), .arr 3 1 ((T.take x).map intLV)]) (fun k => ss.length - k) (fun k => k ≤ ss.length) 0 (Nat.zero_le _) ?_ ?_
    · refine ⟨?_, ⟨rfl, rfl, rfl, rfl, rfl, rfl, trivial⟩, rfl⟩
      ((repeat ((conv => whnf); refine ⟨rfl, rfl, ?_⟩)); trivial)
    intro k hk
    generalize hK2 : kk _ = KK2
    ((repeat ((conv => whnf); first | refine brT ?_ | refine brF ?_)); conv => whnf)
    (refine ⟨fun h2 => ?_, fun h2 => ?_⟩ <;> rw [h2])
    · have hlk : k < ss.length := by rw [ltI_t] at h2; simp at h2; omega
      have e2 := step_i hlk (by unfold Go.maxLen; omega)
      obtain ⟨a1, a2, a3⟩ := atV_tp hc he hlt k hk
      have hst := l6Step_spec w c ss[k].a (sexAt eg ss k) (atV w c eg ss x k) hc a2 a3
      have eA : stpV w c ss[k].a (sexAt eg ss k) (atV w c eg ss x k) = atV w c eg ss x (k + 1) := by simp only [atV]; rw [kindAt_get hlk]
      rw [eA] at hst
      have e3 : LV.int .i64 (sxOf ss[k].a) = LV.int .i64 (sexAt eg ss (k + 1)) := by rw [sexAt_succ hlk]
      ((repeat ((conv => whnf); first | refine brT ?_ | refine brF ?_)); conv => whnf)
      refine ⟨k, ss[k].lv, rfl, by simp [hlk], rfl, ?_⟩
      ((repeat ((conv => whnf); first | refine brT ?_ | refine brF ?_)); conv => whnf)
      refine ⟨_, hst, ?_⟩
      ((repeat ((conv => whnf); first | refine brT ?_ | refine brF ?_)); conv => whnf)
      refine ⟨_, l3Sex_spec ss[k].a, ?_⟩
      subst hK2
      ((repeat ((conv => whnf); first | refine brT ?_ | refine brF ?_)); conv => whnf)
      refine round_endR [.old 0, .old 1, .old 2] (k + 1) hlk (by omega) ⟨?_, ⟨rfl, rfl, rfl, rfl, rfl, rfl, trivial⟩, rfl⟩
      repeat ((conv => whnf); first | refine ⟨rfl, e2, ?_⟩ | refine ⟨rfl, e3, ?_⟩ | refine ⟨rfl, rfl, ?_⟩)
      trivial
    · have hk' : k = ss.length := by rw [ltI_f] at h2; simp at h2; omega
      subst hk'
      obtain ⟨a1, a2, a3⟩ := atV_tp hc he hlt ss.length (Nat.le_refl _)
      rw [← hT] at a1
      have hxT : x < T.length := by omega
      have e4 : (T.take x).map intLV ++ [LV.int .i64 (atV w c eg ss x ss.length)] = (T.take (x + 1)).map intLV := by
        rw [a1, List.take_succ_eq_append_getElem hxT, List.map_append, getD_lt hxT]; rfl
      have e5 : LV.hs 2 ((T.take x).map intLV ++ [LV.int .i64 (atV w c eg ss x ss.length)]).length = LV.hs 2 ((T.take (x + 1)).map intLV).length := by rw [e4]
      subst hK2
      ((repeat ((conv => whnf); first | refine brT ?_ | refine brF ?_)); conv => whnf)
      refine ⟨rfl, rfl, ?_, ?_, ?_⟩
      · rw [e4]; simp; unfold Go.maxLen; omega
      · rw [e4]; simp; omega
      subst hK
      ((repeat ((conv => whnf); first | refine brT ?_ | refine brF ?_)); conv => whnf)
      refine round_endR [.old 0, .old 1, .old 4] (x + 1) hlt (by omega) ⟨?_, ⟨rfl, rfl, rfl, rfl, rfl, congrArg (Blk.arr 3 1) e4, trivial⟩, rfl⟩
      repeat ((conv => whnf); first | refine ⟨rfl, e1, ?_⟩ | refine ⟨rfl, e5, ?_⟩ | refine ⟨rfl, rfl, ?_⟩)
      trivial
  · have h4 : x = w.length := by rw [ltI_f] at h1; simp at h1; omega
    subst h4
    have e6 : T.take w.length = T := List.take_of_length_le (by omega)
    subst hK
    ((repeat ((conv => whnf); first | refine brT ?_ | refine brF ?_)); conv => whnf)
    rw [e6]
    exact ⟨[.hs 0 (T.map intLV).length], rfl, rfl, .inr ⟨[.old 2], ⟨rfl, rfl, trivial⟩, ⟨rfl, rfl, trivial⟩, rfl⟩⟩
end Go.Proofs.Ytpfipmjmblgjfaa

namespace Go.Proofs.Ytpfipmjmblgjfaa
open Go.Lg Go.Pm
set_option maxHeartbeats 6400000
set_option maxRecDepth 10000
set_option linter.unusedVariables false
set_option linter.unusedSimpArgs false

theorem typB_egoT {e : Int} {ss : List Pr} (h : typB e ss = true) : egoT e ss = 0 ∨ egoT e ss = 1 ∨ egoT e ss = 2 := by
  unfold typB at h
  simp only [Bool.and_eq_true, leI_t] at h
  unfold egoT
  split
  · split
    · omega
    · split
      · omega
      · split <;> omega
  · omega
theorem ego_ok {e : Int} {ss : List Pr} (h : typB e ss = true) (hg : (ltI 0 (ss.length : Int) && eqI (egoT e ss) 0) = false) : ∀ k, k < ss.length → sexAt (egoT e ss) ss k = 1 ∨ sexAt (egoT e ss) ss k = 2 := by
  intro k hk
  refine sexAt_12 ?_ k (by omega)
  rw [show ltI 0 (ss.length : Int) = true by rw [ltI_t]; omega, Bool.true_and, eqI_f] at hg
  rcases typB_egoT h with h | h | h
  · exact absurd h hg
  · exact .inl h
  · exact .inr h
theorem typePerm_spec (w c : List Int) (e : Int) (ss : List Pr) (h1 : w.length ≤ 1048576) (h2 : c.length ≤ 1048576) : HSpec env.P 50 [clsLV w c, typLV e ss] [] (tpHS w c e ss) [.arr 3 1 ((tpL w c e ss).map intLV)] := by
  refine HSpec_of_code (E := env.x [111] 0) env_ok.x (fn := Try.f50) Try.func50 rfl Try.call50 _ _ _ _ ?_
  have no : okTP w c e ss = false → tpHS w c e ss = .tup [.hs 0 0, .bool false] ∧ ((tpL w c e ss).map intLV) = [] := fun h => by
    unfold tpHS tpL; rw [h]; exact ⟨rfl, rfl⟩
  have hl0 : ((ss.map Pr.lv).length : Int) = (ss.length : Int) := by simp
  ((repeat ((conv => whnf); first | refine brT ?_ | refine brF ?_)); conv => whnf)
  refine ⟨_, isClasses_spec w c h1 h2, ?_⟩
  ((repeat ((conv => whnf); first | refine brT ?_ | refine brF ?_)); conv => whnf)
  (refine ⟨fun g1 => ?_, fun g1 => ?_⟩ <;> rw [g1])
  · rw [notB_t] at g1
    obtain ⟨n1, n2⟩ := no (by unfold okTP; rw [g1]; rfl)
    rw [n1, n2]
    ((repeat ((conv => whnf); first | refine brT ?_ | refine brF ?_)); conv => whnf)
    exact ⟨[.hs 0 0, .bool false], rfl, rfl, .nl [.tmp 0 [] false 3 1] [.old 2] ⟨⟨rfl, rfl, rfl, rfl, trivial⟩, ⟨rfl, rfl, trivial⟩, rfl⟩⟩
  rw [notB_f] at g1
  ((repeat ((conv => whnf); first | refine brT ?_ | refine brF ?_)); conv => whnf)
  refine ⟨_, isType_spec e ss, ?_⟩
  ((repeat ((conv => whnf); first | refine brT ?_ | refine brF ?_)); conv => whnf)
  (refine ⟨fun g2 => ?_, fun g2 => ?_⟩ <;> rw [g2])
  · rw [notB_t] at g2
    obtain ⟨n1, n2⟩ := no (by unfold okTP; rw [g1, g2]; rfl)
    rw [n1, n2]
    ((repeat ((conv => whnf); first | refine brT ?_ | refine brF ?_)); conv => whnf)
    exact ⟨[.hs 0 0, .bool false], rfl, rfl, .nl [.tmp 0 [] false 3 1] [.old 2] ⟨⟨rfl, rfl, rfl, rfl, trivial⟩, ⟨rfl, rfl, trivial⟩, rfl⟩⟩
  rw [notB_f] at g2
  have hs8 := typB_len g2
  ((repeat ((conv => whnf); first | refine brT ?_ | refine brF ?_)); conv => whnf)
  intro _
  rw [hl0]
  ((repeat ((conv => whnf); first | refine brT ?_ | refine brF ?_)); conv => whnf)
  cases gg : (ltI 0 (ss.length : Int) && eqI (egoT e ss) 0) with
  | true =>
    have gg' := gg
    simp only [Bool.and_eq_true] at gg'
    obtain ⟨n1, n2⟩ := no (by unfold okTP; rw [g1, g2, gg]; simp [notB])
    rw [n1, n2, gg'.1]
    ((repeat ((conv => whnf); first | refine brT ?_ | refine brF ?_)); conv => whnf)
    refine ⟨_, l3Ego_spec e ss, ?_⟩
    ((repeat ((conv => whnf); first | refine brT ?_ | refine brF ?_)); conv => whnf)
    rw [gg'.2]
    ((repeat ((conv => whnf); first | refine brT ?_ | refine brF ?_)); conv => whnf)
    exact ⟨[.hs 0 0, .bool false], rfl, rfl, .nl [.tmp 0 [] false 3 1] [.old 2] ⟨⟨rfl, rfl, rfl, rfl, trivial⟩, ⟨rfl, rfl, trivial⟩, rfl⟩⟩
  | false =>
  have ok : okTP w c e ss = true := by unfold okTP; rw [g1, g2, gg]; simp [notB]
  have eT : tpL w c e ss = tpTo w c (egoT e ss) ss ss.length := by unfold tpL; rw [ok]
  have hh := l6Type_h w c e ss g1 hs8 (ego_ok g2 gg)
  unfold tpHS
  rw [eT, ok]
  (refine ⟨fun h3 => ?_, fun h3 => ?_⟩ <;> rw [h3])
  · rw [h3, Bool.true_and] at gg
    ((repeat ((conv => whnf); first | refine brT ?_ | refine brF ?_)); conv => whnf)
    refine ⟨_, l3Ego_spec e ss, ?_⟩
    ((repeat ((conv => whnf); first | refine brT ?_ | refine brF ?_)); conv => whnf)
    rw [gg]
    ((repeat ((conv => whnf); first | refine brT ?_ | refine brF ?_)); conv => whnf)
    refine ⟨[], _, _, _, _, hh, rfl, rfl, rfl, trivial, ?_⟩
    ((repeat ((conv => whnf); first | refine brT ?_ | refine brF ?_)); conv => whnf)
    exact ⟨[.hs 0 ((tpTo w c (egoT e ss) ss ss.length).map intLV).length, .bool true], rfl, rfl, .inr ⟨[.old 2], ⟨rfl, rfl, rfl, rfl, trivial⟩, ⟨rfl, rfl, trivial⟩, rfl⟩⟩
  · ((repeat ((conv => whnf); first | refine brT ?_ | refine brF ?_)); conv => whnf)
    refine ⟨[], _, _, _, _, hh, rfl, rfl, rfl, trivial, ?_⟩
    ((repeat ((conv => whnf); first | refine brT ?_ | refine brF ?_)); conv => whnf)
    exact ⟨[.hs 0 ((tpTo w c (egoT e ss) ss ss.length).map intLV).length, .bool true], rfl, rfl, .inr ⟨[.old 2], ⟨rfl, rfl, rfl, rfl, trivial⟩, ⟨rfl, rfl, trivial⟩, rfl⟩⟩
def tpLV (w c : List Int) (e : Int) (ss : List Pr) : LV := .tup [rowOw (tpL w c e ss), .bool (okTP w c e ss)]
theorem tp_f {f : FuncId} {args : List LV} {w c : List Int} {e : Int} {ss : List Pr} (h : HSpec env.P f args [] (tpHS w c e ss) [.arr 3 1 ((tpL w c e ss).map intLV)]) : FSpec env.P f args (tpLV w c e ss) :=
  FSpec_of_HSpecT h (by unfold rowOw; simp [exW, exsW])
theorem tpL_len (w c : List Int) (e : Int) (ss : List Pr) : (tpL w c e ss).length ≤ w.length := by
  unfold tpL
  cases h : okTP w c e ss
  · simp
  · have hc : clsB w c = true := by unfold okTP at h; simp only [Bool.and_eq_true] at h; exact h.1
    simp only
    rw [(tp_perm hc _ _ _).2]; exact Nat.le_refl _
theorem markKinType_I (e : Int) (ps : List Pr) (m : Nat) (hm : m = (ps.map Pr.lv).length) (k : Int) (h0 : 0 ≤ k) (h1 : k + 2 * ps.length ≤ 2305843009213693952) :
    HSpec env.P 54 [typHS e 0 m, .int .i64 k] [.arr 112 2 (ps.map Pr.lv)] (.int .i64 (k + 2 * ps.length)) [.arr 112 2 ((markPrs k.toNat ps.length).map Pr.lv)] := by
  obtain ⟨n, rfl⟩ := Int.eq_ofNat_of_zero_le h0
  have := markKinType_spec e ps m hm n (by omega)
  rw [show ((n + 2 * ps.length : Nat) : Int) = (n : Int) + 2 * (ps.length : Int) by omega] at this
  exact this
theorem flat_tupI (rs : List Int) (b : Bool) : flatT (.tup [rowOw rs, .bool b]) = true := by simp [flatT, flatB, rowOw, flatsB, flats_ints]
theorem law_typePermutation (w c : List Int) (e : Int) (ss : List Pr) (hm : w.length ≤ Go.maxLen ∧ c.length ≤ Go.maxLen) (hl : ss.length ≤ Go.maxLen) : FSpec env.P 11 [clsLV w c, typLV e ss] (.bool true) := by
  refine FSpec_of_code (E := env.x [36, 51, 52, 43, 54, 30] 0) env_ok.x (fn := Try.f11) Try.func11 rfl Try.call11 _ _ ?_
  ((repeat ((conv => whnf); first | refine brT ?_ | refine brF ?_)); conv => whnf)
  refine ⟨_, szClasses_spec w c _, ?_⟩
  ((repeat ((conv => whnf); first | refine brT ?_ | refine brF ?_)); conv => whnf)
  (refine ⟨fun h => ?_, fun h => ?_⟩ <;> rw [h])
  · ((repeat ((conv => whnf); first | refine brT ?_ | refine brF ?_)); conv => whnf); exact fin rfl
  rw [ltI_f] at h
  obtain ⟨es, hs⟩ := szC_ok (by omega) (by omega) hm.1 hm.2 h
  ((repeat ((conv => whnf); first | refine brT ?_ | refine brF ?_)); conv => whnf)
  refine ⟨_, szKinType_spec e ss (szC 1048576 w.length c.length), ?_⟩
  by_cases h2 : 0 ≤ szT (szC 1048576 w.length c.length) ss.length
  rotate_left
  · ((repeat ((conv => whnf); first | refine brT ?_ | refine brF ?_)); conv => whnf)
    rw [show ltI (szT (szC 1048576 w.length c.length) ss.length) 0 = true by rw [ltI_t]; omega]
    ((repeat ((conv => whnf); first | refine brT ?_ | refine brF ?_)); conv => whnf)
    exact fin rfl
  obtain ⟨q1, q2, hf, hb, -⟩ := szT_ok (by omega) (by omega) hl h2
  have hI := typePerm_impl w c e ss (by omega) (by omega)
  have hS := tp_f (typePerm_spec w c e ss (by omega) (by omega))
  have hF := tp_f hI
  have hll := tpL_len w c e ss
  unfold tpHS at hI
  unfold tpLV rowOw at hS hF
  generalize tpL w c e ss = rs at hI hS hF hll
  generalize okTP w c e ss = b at hI hS hF
  ((repeat ((conv => whnf); first | refine brT ?_ | refine brF ?_)); conv => whnf)
  rw [hf]
  ((repeat ((conv => whnf); first | refine brT ?_ | refine brF ?_)); conv => whnf)
  refine ⟨true, by kernel_rfl, ?_⟩
  ((repeat ((conv => whnf); first | refine brT ?_ | refine brF ?_)); conv => whnf)
  refine ⟨_, toClasses_f w c (by omega) (by omega), ?_⟩
  ((repeat ((conv => whnf); first | refine brT ?_ | refine brF ?_)); conv => whnf)
  refine ⟨_, toKinType_f e ss (by omega), ?_⟩
  ((repeat ((conv => whnf); first | refine brT ?_ | refine brF ?_)); conv => whnf)
  refine ⟨_, hS, ?_⟩
  rw [show flatT (.tup [.own 3 1 (rs.map intLV), .bool b]) = true from flat_tupI rs b]
  ((repeat ((conv => whnf); first | refine brT ?_ | refine brF ?_)); conv => whnf)
  refine ⟨[], _, _, _, _, toClasses_h w c (by omega) (by omega), rfl, rfl, rfl, trivial, ?_⟩
  ((repeat ((conv => whnf); first | refine brT ?_ | refine brF ?_)); conv => whnf)
  refine ⟨[], _, _, _, _, toKinType_h e ss (by omega), rfl, rfl, rfl, trivial, ?_⟩
  ((repeat ((conv => whnf); first | refine brT ?_ | refine brF ?_)); conv => whnf)
  refine ⟨[], _, _, _, _, hI, rfl, ?_⟩
  ((repeat ((conv => whnf); first | refine brT ?_ | refine brF ?_)); conv => whnf)
  refine ⟨rfl, ?_⟩
  ((repeat ((conv => whnf); first | refine brT ?_ | refine brF ?_)); conv => whnf)
  refine ⟨rfl, ?_⟩
  ((repeat ((conv => whnf); first | refine brT ?_ | refine brF ?_)); conv => whnf)
  refine ⟨rfl, ?_⟩
  ((repeat ((conv => whnf); first | refine brT ?_ | refine brF ?_)); conv => whnf)
  refine ⟨rfl, rfl, ⟨rfl, flats_ints _, trivial⟩, ?_⟩
  ((repeat ((conv => whnf); first | refine brT ?_ | refine brF ?_)); conv => whnf)
  refine ⟨rfl, ?_⟩
  ((repeat ((conv => whnf); first | refine brT ?_ | refine brF ?_)); conv => whnf)
  refine ⟨_, eqIntS_spec rs rs, ?_⟩
  rw [eqIntS_refl]
  ((repeat ((conv => whnf); first | refine brT ?_ | refine brF ?_)); conv => whnf)
  rw [show notB true = false by simp [notB]]
  ((repeat ((conv => whnf); first | refine brT ?_ | refine brF ?_)); conv => whnf)
  rw [show notB (eqB (b) (b)) = false by simp [notB, eqB_refl]]
  ((repeat ((conv => whnf); first | refine brT ?_ | refine brF ?_)); conv => whnf)
  refine ⟨true, by kernel_rfl, ?_⟩
  ((repeat ((conv => whnf); first | refine brT ?_ | refine brF ?_)); conv => whnf)
  refine ⟨_, toClasses_f w c (by omega) (by omega), ?_⟩
  ((repeat ((conv => whnf); first | refine brT ?_ | refine brF ?_)); conv => whnf)
  refine ⟨rfl, ?_⟩
  ((repeat ((conv => whnf); first | refine brT ?_ | refine brF ?_)); conv => whnf)
  refine ⟨rfl, ?_⟩
  ((repeat ((conv => whnf); first | refine brT ?_ | refine brF ?_)); conv => whnf)
  refine ⟨_, eqClasses_spec w c w c, ?_⟩
  rw [eqCls_refl]
  ((repeat ((conv => whnf); first | refine brT ?_ | refine brF ?_)); conv => whnf)
  rw [show notB true = false by simp [notB]]
  ((repeat ((conv => whnf); first | refine brT ?_ | refine brF ?_)); conv => whnf)
  refine ⟨true, by kernel_rfl, ?_⟩
  ((repeat ((conv => whnf); first | refine brT ?_ | refine brF ?_)); conv => whnf)
  refine ⟨_, toKinType_f e ss (by omega), ?_⟩
  ((repeat ((conv => whnf); first | refine brT ?_ | refine brF ?_)); conv => whnf)
  refine ⟨rfl, ?_⟩
  ((repeat ((conv => whnf); first | refine brT ?_ | refine brF ?_)); conv => whnf)
  refine ⟨_, eqKinType_spec e ss e ss, ?_⟩
  rw [eqTyp_refl]
  ((repeat ((conv => whnf); first | refine brT ?_ | refine brF ?_)); conv => whnf)
  rw [show notB true = false by simp [notB]]
  ((repeat ((conv => whnf); first | refine brT ?_ | refine brF ?_)); conv => whnf)
  refine ⟨[2, 3], _, _, _, _, markClasses_spec w c _ _ rfl rfl 1 (by omega) (by omega), rfl, rfl, rfl, trivial, ?_⟩
  ((repeat ((conv => whnf); first | refine brT ?_ | refine brF ?_)); conv => whnf)
  refine ⟨[5], _, _, _, _, markKinType_I e ss _ rfl (1 + (w.length : Int) + (c.length : Int)) (by omega) (by omega), rfl, rfl, rfl, trivial, ?_⟩
  ((repeat ((conv => whnf); first | refine brT ?_ | refine brF ?_)); conv => whnf)
  rw [show ltI (1 + (w.length : Int) + (c.length : Int) + 2 * (ss.length : Int)) 0 = false by rw [ltI_f]; omega]
  ((repeat ((conv => whnf); first | refine brT ?_ | refine brF ?_)); conv => whnf)
  refine ⟨rfl, ?_⟩
  ((repeat ((conv => whnf); first | refine brT ?_ | refine brF ?_)); conv => whnf)
  refine ⟨_, eqIntS_spec rs rs, ?_⟩
  rw [eqIntS_refl]
  ((repeat ((conv => whnf); first | refine brT ?_ | refine brF ?_)); conv => whnf)
  rw [show notB true = false by simp [notB]]
  ((repeat ((conv => whnf); first | refine brT ?_ | refine brF ?_)); conv => whnf)
  rw [show notB (eqB (b) (b)) = false by simp [notB, eqB_refl]]
  ((repeat ((conv => whnf); first | refine brT ?_ | refine brF ?_)); conv => whnf)
  refine ⟨[7], _, _, _, _, markIntS_spec rs _ rfl 1 (by omega) (by omega), rfl, rfl, rfl, trivial, ?_⟩
  ((repeat ((conv => whnf); first | refine brT ?_ | refine brF ?_)); conv => whnf)
  refine ⟨by simp [marks_len], ?_⟩
  ((repeat ((conv => whnf); first | refine brT ?_ | refine brF ?_)); conv => whnf)
  refine ⟨_, heldIntS_spec 1 rs.length (by omega) (by omega), ?_⟩
  ((repeat ((conv => whnf); first | refine brT ?_ | refine brF ?_)); conv => whnf)
  rw [show ltI (1 + (rs.length : Int)) 0 = false by rw [ltI_f]; omega]
  ((repeat ((conv => whnf); first | refine brT ?_ | refine brF ?_)); conv => whnf)
  rw [show notB (eqI (1 + (rs.length : Int)) (1 + (rs.length : Int))) = false by simp [notB, eqI_refl]]
  ((repeat ((conv => whnf); first | refine brT ?_ | refine brF ?_)); conv => whnf)
  refine ⟨true, by kernel_rfl, ?_⟩
  ((repeat ((conv => whnf); first | refine brT ?_ | refine brF ?_)); conv => whnf)
  refine ⟨_, toClasses_f w c (by omega) (by omega), ?_⟩
  ((repeat ((conv => whnf); first | refine brT ?_ | refine brF ?_)); conv => whnf)
  refine ⟨_, toKinType_f e ss (by omega), ?_⟩
  ((repeat ((conv => whnf); first | refine brT ?_ | refine brF ?_)); conv => whnf)
  refine ⟨_, hF, ?_⟩
  rw [show flatT (.tup [.own 3 1 (rs.map intLV), .bool b]) = true from flat_tupI rs b]
  ((repeat ((conv => whnf); first | refine brT ?_ | refine brF ?_)); conv => whnf)
  refine ⟨_, eqIntS_spec rs rs, ?_⟩
  rw [eqIntS_refl]
  ((repeat ((conv => whnf); first | refine brT ?_ | refine brF ?_)); conv => whnf)
  rw [show notB true = false by simp [notB]]
  ((repeat ((conv => whnf); first | refine brT ?_ | refine brF ?_)); conv => whnf)
  rw [show notB (eqB (b) (b)) = false by simp [notB, eqB_refl]]
  ((repeat ((conv => whnf); first | refine brT ?_ | refine brF ?_)); conv => whnf)
  refine ⟨by simp [marks_len], ?_⟩
  ((repeat ((conv => whnf); first | refine brT ?_ | refine brF ?_)); conv => whnf)
  refine ⟨_, heldIntS_spec 1 rs.length (by omega) (by omega), ?_⟩
  ((repeat ((conv => whnf); first | refine brT ?_ | refine brF ?_)); conv => whnf)
  rw [show ltI (1 + (rs.length : Int)) 0 = false by rw [ltI_f]; omega]
  ((repeat ((conv => whnf); first | refine brT ?_ | refine brF ?_)); conv => whnf)
  rw [show notB (eqI (1 + (rs.length : Int)) (1 + (rs.length : Int))) = false by simp [notB, eqI_refl]]
  ((repeat ((conv => whnf); first | refine brT ?_ | refine brF ?_)); conv => whnf)
  exact fin rfl
end Go.Proofs.Ytpfipmjmblgjfaa

namespace Go.Proofs.Ytpfipmjmblgjfaa
open Go.Lg Go.Pm
set_option maxHeartbeats 6400000
set_option maxRecDepth 10000
set_option linter.unusedVariables false
set_option linter.unusedSimpArgs false

/-- The order of lists of integers. -/
def lessI : List Int → List Int → Bool
  | [], [] => false
  | [], _ :: _ => true
  | _ :: _, [] => false
  | x :: xs, y :: ys => match eqI x y with | true => lessI xs ys | false => ltI x y
theorem lessI_eq : ∀ xs ys : List Int, (match notB (lessI xs ys) with | true => notB (lessI ys xs) | false => false) = eqList eqI xs ys
  | [], [] => by simp [lessI, notB, eqList]
  | [], _ :: _ => by simp [lessI, notB, eqList]
  | _ :: _, [] => by simp [lessI, notB, eqList]
  | x :: xs, y :: ys => by
    have ih := lessI_eq xs ys
    show _ = (eqI x y && eqList eqI xs ys)
    cases h : eqI x y with
    | true =>
      have h2 : eqI y x = true := by rw [eqI_t] at h ⊢; omega
      simp only [lessI, h, h2, Bool.true_and]
      exact ih
    | false =>
      have h2 : eqI y x = false := by rw [eqI_f] at h ⊢; omega
      simp only [lessI, h, h2, Bool.false_and]
      cases g : ltI x y with
      | true => simp [notB]
      | false =>
        have g2 : ltI y x = true := by rw [eqI_f] at h; rw [ltI_f] at g; rw [ltI_t]; omega
        simp [notB, g2]
theorem l6Less_spec (xs ys : List Int) : FSpec env.P 169 [.sl (xs.map intLV), .sl (ys.map intLV)] (.bool (lessI xs ys)) := by
  refine FSpec_of_code env_ok (fn := Try.f169) Try.func169 rfl Try.call169 _ _ ?_
  have hX : (xs.map intLV).length = xs.length := List.length_map ..
  have hY : (ys.map intLV).length = ys.length := List.length_map ..
  ((repeat ((conv => whnf); first | refine brT ?_ | refine brF ?_)); conv => whnf)
  intro hp
  rw [hX] at hp ⊢
  ((repeat ((conv => whnf); first | refine brT ?_ | refine brF ?_)); conv => whnf)
  refine loop_rule (α := Nat) (fun k => [(8, .int .i64 (k : Int))]) (fun _ => []) (fun k => xs.length - k) (fun k => k ≤ xs.length ∧ k ≤ ys.length ∧ lessI xs ys = lessI (xs.drop k) (ys.drop k)) 0 ⟨Nat.zero_le _, Nat.zero_le _, rfl⟩ ?_ ?_
  · refine ⟨?_, trivial, rfl, rfl⟩
    ((repeat ((conv => whnf); refine ⟨rfl, ?_⟩)); trivial)
  rintro k ⟨hk, hk2, he⟩
  ((repeat ((conv => whnf); first | refine brT ?_ | refine brF ?_)); conv => whnf)
  (refine ⟨fun h1 => ?_, fun h1 => ?_⟩ <;> rw [h1])
  · have hlt : k < xs.length := by rw [ltI_t] at h1; omega
    ((repeat ((conv => whnf); first | refine brT ?_ | refine brF ?_)); conv => whnf)
    intro hq
    rw [hY]
    ((repeat ((conv => whnf); first | refine brT ?_ | refine brF ?_)); conv => whnf)
    (refine ⟨fun h2 => ?_, fun h2 => ?_⟩ <;> rw [h2])
    · have : k = ys.length := by rw [eqI_t] at h2; omega
      subst this
      ((repeat ((conv => whnf); first | refine brT ?_ | refine brF ?_)); conv => whnf)
      refine fin ?_
      rw [he, List.drop_eq_getElem_cons hlt, List.drop_eq_nil_of_le (Nat.le_refl _)]
      rfl
    have hlt2 : k < ys.length := by rw [eqI_f] at h2; omega
    have hd : lessI xs ys = (match eqI xs[k] ys[k] with | true => lessI (xs.drop (k + 1)) (ys.drop (k + 1)) | false => ltI xs[k] ys[k]) := by
      rw [he, List.drop_eq_getElem_cons hlt, List.drop_eq_getElem_cons hlt2]; rfl
    ((repeat ((conv => whnf); first | refine brT ?_ | refine brF ?_)); conv => whnf)
    refine ⟨true, by kernel_rfl, ?_⟩
    ((repeat ((conv => whnf); first | refine brT ?_ | refine brF ?_)); conv => whnf)
    refine ⟨k, intLV xs[k], rfl, by simp [hlt], rfl, ?_⟩
    ((repeat ((conv => whnf); first | refine brT ?_ | refine brF ?_)); conv => whnf)
    refine ⟨k, intLV ys[k], rfl, by simp [hlt2], rfl, ?_⟩
    ((repeat ((conv => whnf); first | refine brT ?_ | refine brF ?_)); conv => whnf)
    (refine ⟨fun h3 => ?_, fun h3 => ?_⟩ <;> rw [h3])
    · rw [notB_t] at h3
      rw [h3] at hd
      ((repeat ((conv => whnf); first | refine brT ?_ | refine brF ?_)); conv => whnf)
      refine ⟨true, by kernel_rfl, ?_⟩
      ((repeat ((conv => whnf); first | refine brT ?_ | refine brF ?_)); conv => whnf)
      refine ⟨k, intLV xs[k], rfl, by simp [hlt], rfl, ?_⟩
      ((repeat ((conv => whnf); first | refine brT ?_ | refine brF ?_)); conv => whnf)
      refine ⟨k, intLV ys[k], rfl, by simp [hlt2], rfl, ?_⟩
      ((repeat ((conv => whnf); first | refine brT ?_ | refine brF ?_)); conv => whnf)
      refine fin ?_
      rw [hd]
    · rw [notB_f] at h3
      rw [h3] at hd
      ((repeat ((conv => whnf); first | refine brT ?_ | refine brF ?_)); conv => whnf)
      refine round_end (k + 1) ⟨hlt, hlt2, hd⟩ (by omega) ⟨?_, trivial, rfl, rfl⟩
      have e := step_i hlt hp
      ((repeat ((conv => whnf); first | refine ⟨e, ?_⟩ | refine ⟨rfl, ?_⟩)); trivial)
  · have h4 : k = xs.length := by rw [ltI_f] at h1; omega
    subst h4
    ((repeat ((conv => whnf); first | refine brT ?_ | refine brF ?_)); conv => whnf)
    intro hq
    rw [hX]
    ((repeat ((conv => whnf); first | refine brT ?_ | refine brF ?_)); conv => whnf)
    intro hq
    rw [hY]
    ((repeat ((conv => whnf); first | refine brT ?_ | refine brF ?_)); conv => whnf)
    refine fin ?_
    rw [he, List.drop_eq_nil_of_le (Nat.le_refl _)]
    cases hd : ys.drop xs.length with
    | nil =>
      have := congrArg List.length hd
      simp only [List.length_drop, List.length_nil] at this
      rw [show ltI (xs.length : Int) (ys.length : Int) = false by rw [ltI_f]; omega]; rfl
    | cons a l =>
      have := congrArg List.length hd
      simp only [List.length_drop, List.length_cons] at this
      rw [show ltI (xs.length : Int) (ys.length : Int) = true by rw [ltI_t]; omega]; rfl
theorem l6Equal_spec (xs ys : List Int) : FSpec env.P 121 [.sl (xs.map intLV), .sl (ys.map intLV)] (.bool (eqList eqI xs ys)) := by
  refine FSpec_of_code env_ok (fn := Try.f121) Try.func121 rfl Try.call121 _ _ ?_
  have e := lessI_eq xs ys
  ((repeat ((conv => whnf); first | refine brT ?_ | refine brF ?_)); conv => whnf)
  refine ⟨_, l6Less_spec xs ys, ?_⟩
  ((repeat ((conv => whnf); first | refine brT ?_ | refine brF ?_)); conv => whnf)
  (refine ⟨fun h => ?_, fun h => ?_⟩ <;> rw [h])
  · rw [h] at e
    ((repeat ((conv => whnf); first | refine brT ?_ | refine brF ?_)); conv => whnf)
    refine ⟨_, l6Less_spec ys xs, ?_⟩
    ((repeat ((conv => whnf); first | refine brT ?_ | refine brF ?_)); conv => whnf)
    refine fin ?_
    rw [← e]
  · rw [h] at e
    ((repeat ((conv => whnf); first | refine brT ?_ | refine brF ?_)); conv => whnf)
    refine fin ?_
    rw [← e]
theorem slicesEqualI_spec (ps qs : List Int) : FSpec env.P 122 [.sl (ps.map intLV), .sl (qs.map intLV)] (.bool (eqList eqI ps qs)) := by
  refine FSpec_of_code env_ok (fn := Try.f122) Try.func122 rfl Try.call122 _ _ ?_
  ((repeat ((conv => whnf); first | refine brT ?_ | refine brF ?_)); conv => whnf)
  intro hp
  ((repeat ((conv => whnf); first | refine brT ?_ | refine brF ?_)); conv => whnf)
  intro hq
  ((repeat ((conv => whnf); first | refine brT ?_ | refine brF ?_)); conv => whnf)
  (refine ⟨fun h => ?_, fun h => ?_⟩ <;> rw [h])
  · ((repeat ((conv => whnf); first | refine brT ?_ | refine brF ?_)); conv => whnf)
    refine fin ?_
    rw [notB_t] at h
    rw [eqList_len (eqI_nolen h)]
  rw [notB_f] at h
  have hl := eqI_len h
  have hp' : ps.length ≤ Go.maxLen := by simpa using hp
  ((repeat ((conv => whnf); first | refine brT ?_ | refine brF ?_)); conv => whnf)
  intro _
  ((repeat ((conv => whnf); first | refine brT ?_ | refine brF ?_)); conv => whnf)
  refine loop_rule (α := Nat) (fun k => [(13, .int .i64 (k : Int))]) (fun _ => []) (fun k => ps.length - k) (fun k => k ≤ ps.length ∧ eqTo eqI ps qs k) 0 ⟨Nat.zero_le _, fun _ _ _ h => absurd h (Nat.not_lt_zero _)⟩ ?_ ?_
  · refine ⟨?_, trivial, rfl, rfl⟩
    ((repeat ((conv => whnf); refine ⟨rfl, ?_⟩)); trivial)
  rintro k ⟨hk, he⟩
  ((repeat ((conv => whnf); first | refine brT ?_ | refine brF ?_)); conv => whnf)
  (refine ⟨fun h1 => ?_, fun h1 => ?_⟩ <;> rw [h1])
  · have hlt : k < ps.length := by rw [ltI_t] at h1; simp at h1; omega
    have hlt2 : k < qs.length := by omega
    ((repeat ((conv => whnf); first | refine brT ?_ | refine brF ?_)); conv => whnf)
    refine ⟨true, by kernel_rfl, ?_⟩
    ((repeat ((conv => whnf); first | refine brT ?_ | refine brF ?_)); conv => whnf)
    refine ⟨k, intLV ps[k], rfl, by simp [hlt], rfl, ?_⟩
    ((repeat ((conv => whnf); first | refine brT ?_ | refine brF ?_)); conv => whnf)
    refine ⟨k, intLV qs[k], rfl, by simp [hlt2], rfl, ?_⟩
    ((repeat ((conv => whnf); first | refine brT ?_ | refine brF ?_)); conv => whnf)
    (refine ⟨fun h3 => ?_, fun h3 => ?_⟩ <;> rw [h3])
    · rw [notB_t] at h3
      ((repeat ((conv => whnf); first | refine brT ?_ | refine brF ?_)); conv => whnf)
      refine fin ?_
      rw [eqList_no (k := k) (x := ps[k]) (y := qs[k]) (by simp [hlt]) (by simp [hlt2]) h3]
    · rw [notB_f] at h3
      ((repeat ((conv => whnf); first | refine brT ?_ | refine brF ?_)); conv => whnf)
      refine round_end (k + 1) ⟨hlt, he.succ (x := ps[k]) (y := qs[k]) (by simp [hlt]) (by simp [hlt2]) h3⟩ (by omega) ⟨?_, trivial, rfl, rfl⟩
      have e := step_i hlt hp'
      ((repeat ((conv => whnf); first | refine ⟨e, ?_⟩ | refine ⟨rfl, ?_⟩)); trivial)
  · have h3 : ps.length ≤ k := by rw [ltI_f] at h1; simp at h1; omega
    have h4 : k = ps.length := by omega
    subst h4
    ((repeat ((conv => whnf); first | refine brT ?_ | refine brF ?_)); conv => whnf)
    refine fin ?_
    rw [eqTo.all hl he]
def alB (w c : List Int) (e : Int) (ss : List Pr) : Bool := match okTP w c e ss with
  | false => false
  | true => match eqI (egoT e ss) 1 with
    | false => false
    | true => match eqI (lastT e ss) 2 with
      | false => false
      | true => eqList eqI (tpL w c e ss) w
theorem allowsType_spec (w c : List Int) (e : Int) (ss : List Pr) (h1 : w.length ≤ 1048576) (h2 : c.length ≤ 1048576) (h3 : ss.length ≤ 1048576) : FSpec env.P 55 [clsLV w c, typLV e ss] (.bool (alB w c e ss)) := by
  refine FSpec_of_code env_ok (fn := Try.f55) Try.func55 rfl Try.call55 _ _ ?_
  have hT := tp_f (typePerm_spec w c e ss h1 h2)
  unfold tpLV rowOw at hT
  unfold alB
  ((repeat ((conv => whnf); first | refine brT ?_ | refine brF ?_)); conv => whnf)
  refine ⟨_, hT, ?_⟩
  ((repeat ((conv => whnf); first | refine brT ?_ | refine brF ?_)); conv => whnf)
  (refine ⟨fun g1 => ?_, fun g1 => ?_⟩ <;> rw [g1])
  · ((repeat ((conv => whnf); first | refine brT ?_ | refine brF ?_)); conv => whnf)
    refine ⟨_, l3Ego_spec e ss, ?_⟩
    ((repeat ((conv => whnf); first | refine brT ?_ | refine brF ?_)); conv => whnf)
    (refine ⟨fun g2 => ?_, fun g2 => ?_⟩ <;> rw [g2])
    · ((repeat ((conv => whnf); first | refine brT ?_ | refine brF ?_)); conv => whnf)
      refine ⟨_, l3Last_spec e ss, ?_⟩
      ((repeat ((conv => whnf); first | refine brT ?_ | refine brF ?_)); conv => whnf)
      (refine ⟨fun g3 => ?_, fun g3 => ?_⟩ <;> rw [g3])
      · ((repeat ((conv => whnf); first | refine brT ?_ | refine brF ?_)); conv => whnf)
        refine ⟨_, l6Equal_spec _ w, ?_⟩
        ((repeat ((conv => whnf); first | refine brT ?_ | refine brF ?_)); conv => whnf)
        exact fin rfl
      · ((repeat ((conv => whnf); first | refine brT ?_ | refine brF ?_)); conv => whnf)
        exact fin rfl
    · ((repeat ((conv => whnf); first | refine brT ?_ | refine brF ?_)); conv => whnf)
      exact fin rfl
  · ((repeat ((conv => whnf); first | refine brT ?_ | refine brF ?_)); conv => whnf)
    exact fin rfl
theorem alB_impl (w c : List Int) (e : Int) (ss : List Pr) : alB w c e ss = (match okTP w c e ss with | false => false | true => match eqList eqI (tpL w c e ss) w with | false => false | true => match eqI (egoR e ss) 1 with | false => false | true => eqI (sexR e ss) 2) := by
  unfold alB
  cases h : okTP w c e ss
  · rfl
  · have ht : typB e ss = true := by unfold okTP at h; simp only [Bool.and_eq_true] at h; exact h.2.1
    rw [show egoR e ss = egoT e ss by simp only [egoR, ht], show sexR e ss = lastT e ss by simp only [sexR, ht]]
    cases eqList eqI (tpL w c e ss) w <;> cases eqI (egoT e ss) 1 <;> cases eqI (lastT e ss) 2 <;> rfl
theorem allowsType_impl (w c : List Int) (e : Int) (ss : List Pr) (h1 : w.length ≤ 1048576) (h2 : c.length ≤ 1048576) (h3 : ss.length ≤ 1048576) : FSpec env.P 56 [clsLV w c, typLV e ss] (.bool (alB w c e ss)) := by
  refine FSpec_of_code env_ok (fn := Try.f56) Try.func56 rfl Try.call56 _ _ ?_
  have hT := tp_f (typePerm_impl w c e ss h1 h2)
  unfold tpLV rowOw at hT
  rw [alB_impl]
  ((repeat ((conv => whnf); first | refine brT ?_ | refine brF ?_)); conv => whnf)
  refine ⟨_, hT, ?_⟩
  ((repeat ((conv => whnf); first | refine brT ?_ | refine brF ?_)); conv => whnf)
  (refine ⟨fun g1 => ?_, fun g1 => ?_⟩ <;> rw [g1])
  · ((repeat ((conv => whnf); first | refine brT ?_ | refine brF ?_)); conv => whnf)
    refine ⟨_, slicesEqualI_spec _ w, ?_⟩
    ((repeat ((conv => whnf); first | refine brT ?_ | refine brF ?_)); conv => whnf)
    (refine ⟨fun g2 => ?_, fun g2 => ?_⟩ <;> rw [g2])
    · ((repeat ((conv => whnf); first | refine brT ?_ | refine brF ?_)); conv => whnf)
      refine ⟨_, egoOfType_impl e ss, ?_⟩
      ((repeat ((conv => whnf); first | refine brT ?_ | refine brF ?_)); conv => whnf)
      (refine ⟨fun g3 => ?_, fun g3 => ?_⟩ <;> rw [g3])
      · ((repeat ((conv => whnf); first | refine brT ?_ | refine brF ?_)); conv => whnf)
        refine ⟨_, sexOfType_impl e ss, ?_⟩
        ((repeat ((conv => whnf); first | refine brT ?_ | refine brF ?_)); conv => whnf)
        exact fin rfl
      · ((repeat ((conv => whnf); first | refine brT ?_ | refine brF ?_)); conv => whnf)
        exact fin rfl
    · ((repeat ((conv => whnf); first | refine brT ?_ | refine brF ?_)); conv => whnf)
      exact fin rfl
  · ((repeat ((conv => whnf); first | refine brT ?_ | refine brF ?_)); conv => whnf)
    exact fin rfl
theorem law_allowsType (w c : List Int) (e : Int) (ss : List Pr) (hm : w.length ≤ Go.maxLen ∧ c.length ≤ Go.maxLen) (hl : ss.length ≤ Go.maxLen) : FSpec env.P 12 [clsLV w c, typLV e ss] (.bool true) := by
  refine FSpec_of_code (E := env.x [36, 51] 0) env_ok.x (fn := Try.f12) Try.func12 rfl Try.call12 _ _ ?_
  ((repeat ((conv => whnf); first | refine brT ?_ | refine brF ?_)); conv => whnf)
  refine ⟨_, szClasses_spec w c _, ?_⟩
  ((repeat ((conv => whnf); first | refine brT ?_ | refine brF ?_)); conv => whnf)
  (refine ⟨fun h => ?_, fun h => ?_⟩ <;> rw [h])
  · ((repeat ((conv => whnf); first | refine brT ?_ | refine brF ?_)); conv => whnf); exact fin rfl
  rw [ltI_f] at h
  obtain ⟨es, hs⟩ := szC_ok (by omega) (by omega) hm.1 hm.2 h
  ((repeat ((conv => whnf); first | refine brT ?_ | refine brF ?_)); conv => whnf)
  refine ⟨_, szKinType_spec e ss (szC 1048576 w.length c.length), ?_⟩
  by_cases h2 : 0 ≤ szT (szC 1048576 w.length c.length) ss.length
  rotate_left
  · ((repeat ((conv => whnf); first | refine brT ?_ | refine brF ?_)); conv => whnf)
    rw [show ltI (szT (szC 1048576 w.length c.length) ss.length) 0 = true by rw [ltI_t]; omega]
    ((repeat ((conv => whnf); first | refine brT ?_ | refine brF ?_)); conv => whnf)
    exact fin rfl
  obtain ⟨q1, q2, hf, hb, -⟩ := szT_ok (by omega) (by omega) hl h2
  have hI := allowsType_impl w c e ss (by omega) (by omega) (by omega)
  have hS := allowsType_spec w c e ss (by omega) (by omega) (by omega)
  generalize alB w c e ss = b at hI hS
  ((repeat ((conv => whnf); first | refine brT ?_ | refine brF ?_)); conv => whnf)
  rw [hf]
  ((repeat ((conv => whnf); first | refine brT ?_ | refine brF ?_)); conv => whnf)
  refine ⟨true, by kernel_rfl, ?_⟩
  ((repeat ((conv => whnf); first | refine brT ?_ | refine brF ?_)); conv => whnf)
  refine ⟨_, toClasses_f w c (by omega) (by omega), ?_⟩
  ((repeat ((conv => whnf); first | refine brT ?_ | refine brF ?_)); conv => whnf)
  refine ⟨_, toKinType_f e ss (by omega), ?_⟩
  ((repeat ((conv => whnf); first | refine brT ?_ | refine brF ?_)); conv => whnf)
  refine ⟨_, hS, ?_⟩
  ((repeat ((conv => whnf); first | refine brT ?_ | refine brF ?_)); conv => whnf)
  refine ⟨[], _, _, _, _, toClasses_h w c (by omega) (by omega), rfl, rfl, rfl, trivial, ?_⟩
  ((repeat ((conv => whnf); first | refine brT ?_ | refine brF ?_)); conv => whnf)
  refine ⟨[], _, _, _, _, toKinType_h e ss (by omega), rfl, rfl, rfl, trivial, ?_⟩
  ((repeat ((conv => whnf); first | refine brT ?_ | refine brF ?_)); conv => whnf)
  refine ⟨rfl, ?_⟩
  ((repeat ((conv => whnf); first | refine brT ?_ | refine brF ?_)); conv => whnf)
  refine ⟨rfl, ?_⟩
  ((repeat ((conv => whnf); first | refine brT ?_ | refine brF ?_)); conv => whnf)
  refine ⟨rfl, ?_⟩
  ((repeat ((conv => whnf); first | refine brT ?_ | refine brF ?_)); conv => whnf)
  refine ⟨_, hI, ?_⟩
  ((repeat ((conv => whnf); first | refine brT ?_ | refine brF ?_)); conv => whnf)
  rw [show notB (eqB (b) (b)) = false by simp [notB, eqB_refl]]
  ((repeat ((conv => whnf); first | refine brT ?_ | refine brF ?_)); conv => whnf)
  refine ⟨true, by kernel_rfl, ?_⟩
  ((repeat ((conv => whnf); first | refine brT ?_ | refine brF ?_)); conv => whnf)
  refine ⟨_, toClasses_f w c (by omega) (by omega), ?_⟩
  ((repeat ((conv => whnf); first | refine brT ?_ | refine brF ?_)); conv => whnf)
  refine ⟨rfl, ?_⟩
  ((repeat ((conv => whnf); first | refine brT ?_ | refine brF ?_)); conv => whnf)
  refine ⟨rfl, ?_⟩
  ((repeat ((conv => whnf); first | refine brT ?_ | refine brF ?_)); conv => whnf)
  refine ⟨_, eqClasses_spec w c w c, ?_⟩
  rw [eqCls_refl]
  ((repeat ((conv => whnf); first | refine brT ?_ | refine brF ?_)); conv => whnf)
  rw [show notB true = false by simp [notB]]
  ((repeat ((conv => whnf); first | refine brT ?_ | refine brF ?_)); conv => whnf)
  refine ⟨true, by kernel_rfl, ?_⟩
  ((repeat ((conv => whnf); first | refine brT ?_ | refine brF ?_)); conv => whnf)
  refine ⟨_, toKinType_f e ss (by omega), ?_⟩
  ((repeat ((conv => whnf); first | refine brT ?_ | refine brF ?_)); conv => whnf)
  refine ⟨rfl, ?_⟩
  ((repeat ((conv => whnf); first | refine brT ?_ | refine brF ?_)); conv => whnf)
  refine ⟨_, eqKinType_spec e ss e ss, ?_⟩
  rw [eqTyp_refl]
  ((repeat ((conv => whnf); first | refine brT ?_ | refine brF ?_)); conv => whnf)
  rw [show notB true = false by simp [notB]]
  ((repeat ((conv => whnf); first | refine brT ?_ | refine brF ?_)); conv => whnf)
  exact fin rfl
end Go.Proofs.Ytpfipmjmblgjfaa

namespace Go.Proofs.Ytpfipmjmblgjfaa
open Go.Lg Go.Pm
set_option maxHeartbeats 6400000
set_option maxRecDepth 10000
set_option linter.unusedVariables false
set_option linter.unusedSimpArgs false

/-! ### Products -/
def prR (b : List Int) (x : Int) : List Int := b.map fun y => x * (b.length : Int) + y
def pdTo (a b : List Int) (i j : Nat) : List Int := (a.take i).flatMap (prR b) ++ (prR b (a.getD i 0)).take j
def prd (a b : List Int) : List Int := a.flatMap (prR b)
theorem prR_len (b : List Int) (x : Int) : (prR b x).length = b.length := by simp [prR]
theorem pdTo_zero (a b : List Int) : pdTo a b 0 0 = [] := by simp [pdTo]
theorem pdTo_succ {a b : List Int} {i j : Nat} (hj : j < b.length) : pdTo a b i (j + 1) = pdTo a b i j ++ [a.getD i 0 * (b.length : Int) + b.getD j 0] := by
  unfold pdTo
  rw [List.take_succ_eq_append_getElem (by rw [prR_len]; exact hj), List.append_assoc]
  rw [getD_lt hj]; simp [prR]
theorem pdTo_row {a b : List Int} {i : Nat} (hi : i < a.length) : pdTo a b i b.length = pdTo a b (i + 1) 0 := by
  unfold pdTo
  rw [List.take_succ_eq_append_getElem hi, List.flatMap_append, getD_lt hi, List.take_of_length_le (l := prR b a[i]) (by rw [prR_len]; exact Nat.le_refl _)]
  simp
theorem pdTo_all (a b : List Int) : pdTo a b a.length 0 = prd a b := by simp [pdTo, prd]
theorem prF_len (b : List Int) : ∀ l : List Int, (l.flatMap (prR b)).length = l.length * b.length
  | [] => by simp
  | x :: l => by rw [List.flatMap_cons, List.length_append, prF_len b l, prR_len, List.length_cons, Nat.succ_mul]; omega
theorem pdTo_len {a b : List Int} {i j : Nat} (hi : i ≤ a.length) (hj : j ≤ b.length) : (pdTo a b i j).length = i * b.length + j := by
  unfold pdTo
  rw [List.length_append, prF_len, List.length_take, List.length_take, prR_len, Nat.min_eq_left hi, Nat.min_eq_left hj]
theorem prd_len (a b : List Int) : (prd a b).length = a.length * b.length := prF_len b a
def smallI (m : Nat) (a : List Int) : Prop := ∀ x ∈ a, 0 ≤ x ∧ x < m
theorem perm_small {a : List Int} (h : permB a = true) : smallI a.length a := fun x hx => (permB_spec.1 h).1 x hx
theorem smallI.at {m : Nat} {a : List Int} (h : smallI m a) {i : Nat} (hi : i < a.length) : 0 ≤ a.getD i 0 ∧ a.getD i 0 < m := by rw [getD_lt hi]; exact h _ (List.getElem_mem hi)
theorem pr_wrap {x m y : Int} (h0 : 0 ≤ x) (h1 : x < 8) (h2 : 0 ≤ m) (h3 : m ≤ 8) (h4 : 0 ≤ y) (h5 : y < 8) : IntKind.i64.wrap (IntKind.i64.wrap (x * m) + y) = x * m + y := by
  have a : 0 ≤ x * m := Int.mul_nonneg h0 h2
  have b : x * m ≤ 64 := Int.le_trans (Int.mul_le_mul_of_nonneg_left h3 h0) (by omega)
  rw [wrap64 (n := x * m) (by omega) (by omega), wrap64 (by omega) (by omega)]
theorem productOf_h (a b : List Int) (ha : a.length ≤ 8) (hb : b.length ≤ 8) (sa : smallI 8 a) (sb : smallI 8 b) :
    HSpec env.P 107 [rowSl a, rowSl b] [] (.hs 0 ((prd a b).map intLV).length) [.arr 3 1 ((prd a b).map intLV)] := by
  refine HSpec_of_code (E := env.x [] 0) env_ok.x (fn := Try.f107) Try.func107 rfl Try.call107 _ _ _ _ ?_
  have hA : (a.map intLV).length = a.length := List.length_map ..
  have hB : (b.map intLV).length = b.length := List.length_map ..
  ((repeat ((conv => whnf); first | refine brT ?_ | refine brF ?_)); conv => whnf)
  intro _
  ((repeat ((conv => whnf); first | refine brT ?_ | refine brF ?_)); conv => whnf)
  rw [hA]
  refine loop_ruleR (α := Nat) [.nil 3 1] (fun i => [(12, .int .i64 (i : Int)), (7, .undef), (9, .undef), (5, .hs 0 ((pdTo a b i 0).map intLV).length)]) (fun i => [.arr 3 1 ((pdTo a b i 0).map intLV)]) (fun i => a.length - i) (fun i => i ≤ a.length) 0 (Nat.zero_le _) ?_ ?_
  · refine ⟨?_, ⟨rfl, rfl, trivial⟩, rfl⟩
    rw [pdTo_zero]
    ((repeat ((conv => whnf); refine ⟨rfl, rfl, ?_⟩)); trivial)
  intro i hi
  generalize hK : kk _ = KK
  ((repeat ((conv => whnf); first | refine brT ?_ | refine brF ?_)); conv => whnf)
  (refine ⟨fun h1 => ?_, fun h1 => ?_⟩ <;> rw [h1])
  · have hlt : i < a.length := by rw [ltI_t] at h1; omega
    have e1 := step_i (n := 40) (k := i) (by omega) (by decide)
    obtain ⟨x0, x1⟩ := sa.at hlt
    ((repeat ((conv => whnf); first | refine brT ?_ | refine brF ?_)); conv => whnf)
    refine ⟨i, intLV (a.getD i 0), rfl, by rw [getD_lt hlt]; simp [hlt], rfl, ?_⟩
    ((repeat ((conv => whnf); first | refine brT ?_ | refine brF ?_)); conv => whnf)
    intro _
    ((repeat ((conv => whnf); first | refine brT ?_ | refine brF ?_)); conv => whnf)
    rw [hB]
    refine loop_ruleR (α := Nat) [.old 0] (fun j => [(18, .int .i64 (j : Int)), (9, .undef), (5, .hs 0 ((pdTo a b i j).map intLV).length)]) (fun j => [.arr 3 1 ((pdTo a b i j).map intLV)]) (fun j => b.length - j) (fun j => j ≤ b.length) 0 (Nat.zero_le _) ?_ ?_
    · refine ⟨?_, ⟨rfl, rfl, trivial⟩, rfl⟩
      ((repeat ((conv => whnf); refine ⟨rfl, rfl, ?_⟩)); trivial)
    intro j hj
    generalize hK2 : kk _ = KK2
    ((repeat ((conv => whnf); first | refine brT ?_ | refine brF ?_)); conv => whnf)
    (refine ⟨fun h2 => ?_, fun h2 => ?_⟩ <;> rw [h2])
    · have hlj : j < b.length := by rw [ltI_t] at h2; omega
      have e2 := step_i (n := 40) (k := j) (by omega) (by decide)
      obtain ⟨y0, y1⟩ := sb.at hlj
      have ew := pr_wrap x0 x1 (by omega : (0 : Int) ≤ (b.length : Int)) (by omega) y0 y1
      have eL : (pdTo a b i j).map intLV ++ [LV.int .i64 (a.getD i 0 * (b.length : Int) + b.getD j 0)] = (pdTo a b i (j + 1)).map intLV := by rw [pdTo_succ hlj, List.map_append]; rfl
      ((repeat ((conv => whnf); first | refine brT ?_ | refine brF ?_)); conv => whnf)
      refine ⟨j, intLV (b.getD j 0), rfl, by rw [getD_lt hlj]; simp [hlj], rfl, ?_⟩
      ((repeat ((conv => whnf); first | refine brT ?_ | refine brF ?_)); conv => whnf)
      intro _
      ((repeat ((conv => whnf); first | refine brT ?_ | refine brF ?_)); conv => whnf)
      rw [hB, ew]
      have hm : i * b.length ≤ 8 * 8 := Nat.mul_le_mul (by omega) hb
      refine ⟨rfl, rfl, ?_, ?_, ?_⟩
      · simp [pdTo_len hi hj]; unfold Go.maxLen; omega
      · simp [pdTo_len hi hj]; omega
      rw [eL]
      subst hK2
      ((repeat ((conv => whnf); first | refine brT ?_ | refine brF ?_)); conv => whnf)
      refine round_endR [.old 2] (j + 1) hlj (by omega) ⟨?_, ⟨rfl, rfl, trivial⟩, rfl⟩
      ((repeat ((conv => whnf); first | refine ⟨rfl, e2, ?_⟩ | refine ⟨rfl, rfl, ?_⟩)); trivial)
    · have h3 : j = b.length := by rw [ltI_f] at h2; omega
      subst h3
      subst hK2
      subst hK
      ((repeat ((conv => whnf); first | refine brT ?_ | refine brF ?_)); conv => whnf)
      rw [pdTo_row hlt]
      refine round_endR [.old 0] (i + 1) hlt (by omega) ⟨?_, ⟨rfl, rfl, trivial⟩, rfl⟩
      ((repeat ((conv => whnf); first | refine ⟨rfl, e1, ?_⟩ | refine ⟨rfl, rfl, ?_⟩)); trivial)
  · have h3 : i = a.length := by rw [ltI_f] at h1; omega
    subst h3
    subst hK
    ((repeat ((conv => whnf); first | refine brT ?_ | refine brF ?_)); conv => whnf)
    rw [pdTo_all]
    exact ⟨[.hs 0 ((prd a b).map intLV).length], rfl, rfl, .inl ⟨⟨rfl, trivial⟩, ⟨rfl, trivial⟩, rfl, rfl⟩⟩
def pdB (w1 c1 w2 c2 : List Int) : Bool := clsB w1 c1 && (clsB w2 c2 && leI ((w1.length : Int) * (w2.length : Int)) 8)
def pdL (b : Bool) (x y : List Int) : List Int := match b with | true => prd x y | false => []
def pdHS (b : Bool) (n m : Nat) : LV := .tup [clsHS n m, .bool b]
theorem pdB_at {w1 c1 w2 c2 : List Int} (h : pdB w1 c1 w2 c2 = true) : clsB w1 c1 = true ∧ clsB w2 c2 = true ∧ w1.length * w2.length ≤ 8 := by
  unfold pdB at h
  simp only [Bool.and_eq_true, leI_t] at h
  exact ⟨h.1, h.2.1, by have := h.2.2; rw [← Int.natCast_mul] at this; omega⟩
theorem product_impl (w1 c1 w2 c2 : List Int) (h1 : w1.length ≤ 1048576) (h2 : c1.length ≤ 1048576) (h3 : w2.length ≤ 1048576) (h4 : c2.length ≤ 1048576) :
    HSpec env.P 46 [clsLV w1 c1, clsLV w2 c2] [] (pdHS (pdB w1 c1 w2 c2) ((pdL (pdB w1 c1 w2 c2) w1 w2).map intLV).length ((pdL (pdB w1 c1 w2 c2) c1 c2).map intLV).length) (clsH (pdL (pdB w1 c1 w2 c2) w1 w2) (pdL (pdB w1 c1 w2 c2) c1 c2)) := by
  refine HSpec_of_code (E := env.x [107] 0) env_ok.x (fn := Try.f46) Try.func46 rfl Try.call46 _ _ _ _ ?_
  ((repeat ((conv => whnf); first | refine brT ?_ | refine brF ?_)); conv => whnf)
  refine ⟨_, isClasses_impl w1 c1 h1 h2, ?_⟩
  ((repeat ((conv => whnf); first | refine brT ?_ | refine brF ?_)); conv => whnf)
  (refine ⟨fun g1 => ?_, fun g1 => ?_⟩ <;> rw [g1])
  · rw [notB_t] at g1
    have e : pdB w1 c1 w2 c2 = false := by unfold pdB; rw [g1]; rfl
    rw [e]
    ((repeat ((conv => whnf); first | refine brT ?_ | refine brF ?_)); conv => whnf)
    exact ⟨[clsHS 0 0, .bool false], rfl, rfl, .nl [.tmp 0 [0] false 3 1, .tmp 0 [1] false 3 1] [.old 3, .old 4] ⟨⟨rfl, rfl, rfl, rfl, trivial⟩, ⟨rfl, rfl, rfl, rfl, trivial⟩, rfl⟩⟩
  rw [notB_f] at g1
  ((repeat ((conv => whnf); first | refine brT ?_ | refine brF ?_)); conv => whnf)
  refine ⟨_, isClasses_impl w2 c2 h3 h4, ?_⟩
  ((repeat ((conv => whnf); first | refine brT ?_ | refine brF ?_)); conv => whnf)
  (refine ⟨fun g2 => ?_, fun g2 => ?_⟩ <;> rw [g2])
  · rw [notB_t] at g2
    have e : pdB w1 c1 w2 c2 = false := by unfold pdB; rw [g1, g2]; rfl
    rw [e]
    ((repeat ((conv => whnf); first | refine brT ?_ | refine brF ?_)); conv => whnf)
    exact ⟨[clsHS 0 0, .bool false], rfl, rfl, .nl [.tmp 0 [0] false 3 1, .tmp 0 [1] false 3 1] [.old 3, .old 4] ⟨⟨rfl, rfl, rfl, rfl, trivial⟩, ⟨rfl, rfl, rfl, rfl, trivial⟩, rfl⟩⟩
  rw [notB_f] at g2
  obtain ⟨n1, n8, hl, pw, pc⟩ := clsB_at g1
  obtain ⟨m1, m8, kl, qw, qc⟩ := clsB_at g2
  have hW1 : (w1.map intLV).length = w1.length := List.length_map ..
  have hW2 : (w2.map intLV).length = w2.length := List.length_map ..
  have ew : IntKind.i64.wrap ((w1.length : Int) * (w2.length : Int)) = (w1.length : Int) * (w2.length : Int) := by
    have : w1.length * w2.length ≤ 8 * 8 := Nat.mul_le_mul n8 m8
    rw [← Int.natCast_mul, wrap64 (by omega) (by omega)]
  ((repeat ((conv => whnf); first | refine brT ?_ | refine brF ?_)); conv => whnf)
  intro _
  rw [hW1]
  ((repeat ((conv => whnf); first | refine brT ?_ | refine brF ?_)); conv => whnf)
  intro _
  rw [hW2]
  ((repeat ((conv => whnf); first | refine brT ?_ | refine brF ?_)); conv => whnf)
  rw [ew]
  (refine ⟨fun g3 => ?_, fun g3 => ?_⟩ <;> rw [g3])
  · have e : pdB w1 c1 w2 c2 = false := by unfold pdB; rw [g1, g2]; rw [show leI ((w1.length : Int) * (w2.length : Int)) 8 = false by rw [leI_f]; rw [ltI_t] at g3; omega]; rfl
    rw [e]
    ((repeat ((conv => whnf); first | refine brT ?_ | refine brF ?_)); conv => whnf)
    exact ⟨[clsHS 0 0, .bool false], rfl, rfl, .nl [.tmp 0 [0] false 3 1, .tmp 0 [1] false 3 1] [.old 3, .old 4] ⟨⟨rfl, rfl, rfl, rfl, trivial⟩, ⟨rfl, rfl, rfl, rfl, trivial⟩, rfl⟩⟩
  have e : pdB w1 c1 w2 c2 = true := by unfold pdB; rw [g1, g2]; rw [show leI ((w1.length : Int) * (w2.length : Int)) 8 = true by rw [leI_t]; rw [ltI_f] at g3; omega]; rfl
  rw [e]
  have s8 : ∀ a : List Int, permB a = true → a.length ≤ 8 → smallI 8 a := fun a ha hl x hx => by have := perm_small ha x hx; omega
  ((repeat ((conv => whnf); first | refine brT ?_ | refine brF ?_)); conv => whnf)
  refine ⟨false, 0, 0, 3, [0, 1, 2, 3, 5, 6, 7, 8], (.one 4 (.one 9 (.one 10 (.one 11 (.one 12 .done))))), by kernel_rfl, by kernel_rfl, ?_⟩
  ((repeat ((conv => whnf); first | refine brT ?_ | refine brF ?_)); conv => whnf)
  apply Exists.intro
  apply Exists.intro
  refine And.intro ?_ ?_
  · refine ⟨_, _, _, _, productOf_h w1 w2 n8 m8 (s8 _ pw n8) (s8 _ qw m8), rfl, rfl, rfl, trivial, ?_⟩
    ((repeat ((conv => whnf); first | refine brT ?_ | refine brF ?_)); conv => whnf)
    refine ⟨_, _, _, _, productOf_h c1 c2 (by omega) (by omega) (s8 _ pc (by omega)) (s8 _ qc (by omega)), rfl, rfl, rfl, trivial, ?_⟩
    ((repeat ((conv => whnf); first | refine brT ?_ | refine brF ?_)); conv => whnf)
    refine Weak.idn ?_ ?_ rfl
    · ((repeat ((conv => whnf); refine ⟨rfl, ?_⟩)); trivial)
    · exact ⟨rfl, rfl, rfl, rfl, rfl, trivial⟩
  ((repeat ((conv => whnf); first | refine brT ?_ | refine brF ?_)); conv => whnf)
  exact ⟨[clsHS ((prd w1 w2).map intLV).length ((prd c1 c2).map intLV).length, .bool true], rfl, rfl, .inr ⟨[.old 3, .old 4], ⟨rfl, rfl, rfl, rfl, trivial⟩, ⟨rfl, rfl, rfl, rfl, trivial⟩, rfl⟩⟩
end Go.Proofs.Ytpfipmjmblgjfaa
