/- Contracts of functions of the program and of its model, told over readings. -/
import Derived.Test.YtdhmnojnkgmmnaaEWGC
import Derived.Test.YtdhmnojnkgmmnaaEWGA
import Derived.Test.YtdhmnojnkgmmnaaELgW
namespace Go.Proofs.Ytdhmnojnkgmmnaa
open Go.Lg
set_option maxHeartbeats 3200000
set_option maxRecDepth 10000
set_option linter.unusedVariables false
set_option linter.unusedSimpArgs false

end Go.Proofs.Ytdhmnojnkgmmnaa


namespace Go.Proofs.Ytdhmnojnkgmmnaa
open Go.Lg
set_option maxHeartbeats 3200000
set_option maxRecDepth 10000
set_option linter.unusedVariables false
set_option linter.unusedSimpArgs false

end Go.Proofs.Ytdhmnojnkgmmnaa


namespace Go.Proofs.Ytdhmnojnkgmmnaa
open Go.Lg
set_option maxHeartbeats 3200000
set_option maxRecDepth 10000
set_option linter.unusedVariables false
set_option linter.unusedSimpArgs false

end Go.Proofs.Ytdhmnojnkgmmnaa

namespace Go.Proofs.Ytdhmnojnkgmmnaa
open Go.Lg
set_option maxHeartbeats 3200000
set_option maxRecDepth 10000
set_option linter.unusedVariables false
set_option linter.unusedSimpArgs false

end Go.Proofs.Ytdhmnojnkgmmnaa

namespace Go.Proofs.Ytdhmnojnkgmmnaa
open Go.Lg
set_option maxHeartbeats 6400000
set_option maxRecDepth 10000
set_option linter.unusedVariables false
set_option linter.unusedSimpArgs false

end Go.Proofs.Ytdhmnojnkgmmnaa

namespace Go.Proofs.Ytdhmnojnkgmmnaa
open Go.Lg Go.Pm
set_option maxHeartbeats 3200000
set_option maxRecDepth 10000
set_option linter.unusedVariables false
set_option linter.unusedSimpArgs false

def foN (ps : List Per) (sx : Int) (p : Nat) : Nat := (foAt ps sx p).toNat
theorem foN_le {ps : List Per} (hp : parsIn ps) (sx : Int) {p : Nat} (h : p < ps.length) : foN ps sx p ≤ p := by
  have := foAt_range hp sx h; unfold foN; omega
theorem foN_cast {ps : List Per} (hp : parsIn ps) (sx : Int) {p : Nat} (h : p < ps.length) : foAt ps sx p = ((foN ps sx p : Nat) : Int) := by
  have := foAt_range hp sx h; unfold foN; omega
theorem foN_self {ps : List Per} (hp : parsIn ps) (sx : Int) : ∀ (k p : Nat), p < k → p < ps.length → foN ps sx (foN ps sx p) = foN ps sx p
  | 0, p, h, _ => by omega
  | k + 1, p, h, hl => by
    have hr := foAt_rec hp (sx := sx) hl
    cases e : eqI (parS ps[p] sx) (-1)
    · rw [e] at hr
      rw [eqI_f] at e
      obtain ⟨x0, x1⟩ := (parS_in hp (sx := sx) hl).resolve_left e
      have hq : foN ps sx p = foN ps sx (parS ps[p] sx).toNat := by unfold foN; rw [hr]
      rw [hq]
      exact foN_self hp sx k _ (by omega) (by omega)
    · rw [e] at hr
      have hr : foAt ps sx p = (p : Int) := hr
      have hq : foN ps sx p = p := by unfold foN; rw [hr]; omega
      rw [hq, hq]
def linesL (ps : List Per) (us : List Uni) (sx : Int) : List (List Int) := match sexB sx && famOk ps us with | true => linesT (foN ps sx) ps.length ps.length | false => []
theorem lines_impl (ps : List Per) (us : List Uni) (sx : Int) : HSpec env.P 56 [famLV ps us, .int .i64 sx] [] (.hs 0 ((linesL ps us sx).map rowOw).length) [.tree 38 1 ((linesL ps us sx).map rowOw)] := by
  refine HSpec_of_code (E := env.x [144] 0) env_ok.x (fn := Try.f56) Try.func56 rfl Try.call56 _ _ _ _ ?_
  unfold linesL
  ((repeat ((conv => whnf); first | refine brT ?_ | refine brF ?_)); conv => whnf)
  refine ⟨_, isSexB sx, ?_⟩
  ((repeat ((conv => whnf); first | refine brT ?_ | refine brF ?_)); conv => whnf)
  cases h : sexB sx
  · rw [show notB false = true by simp [notB]]
    ((repeat ((conv => whnf); first | refine brT ?_ | refine brF ?_)); conv => whnf)
    exact ⟨[.hs 0 0], rfl, rfl, .nl [.tmp 0 [] true 38 1] [.old 1] ⟨⟨rfl, rfl, trivial⟩, ⟨rfl, rfl, trivial⟩, rfl⟩⟩
  rw [show notB true = false by simp [notB]]
  ((repeat ((conv => whnf); first | refine brT ?_ | refine brF ?_)); conv => whnf)
  refine ⟨_, isFamily_impl ps us, ?_⟩
  ((repeat ((conv => whnf); first | refine brT ?_ | refine brF ?_)); conv => whnf)
  cases h2 : famOk ps us
  · rw [show notB false = true by simp [notB]]
    ((repeat ((conv => whnf); first | refine brT ?_ | refine brF ?_)); conv => whnf)
    exact ⟨[.hs 0 0], rfl, rfl, .nl [.tmp 0 [] true 38 1] [.old 1] ⟨⟨rfl, rfl, trivial⟩, ⟨rfl, rfl, trivial⟩, rfl⟩⟩
  rw [show notB true = false by simp [notB]]
  obtain ⟨l40, _, hper, _⟩ := famOk_parts h2
  have hp := parsIn_of hper
  have hfl := fos_len ps sx
  have hks : ∀ p, p < ps.length → (fos ps sx).getD p 0 = (foN ps sx p : Int) := fun p hpl => by
    rw [List.getD_eq_getElem?_getD, fos_get hpl, ← foN_cast hp sx hpl]; rfl
  have hgr := grp_linesT (ks := fos ps sx) hks (fun p hpl => foN_self hp sx _ p (Nat.lt_succ_self p) hpl) (fun p hpl => foN_le hp sx hpl)
  have hg := groupsBy_h (fos ps sx) (fun x hx => by
    obtain ⟨i, hi, rfl⟩ := List.getElem_of_mem hx
    have hi' : i < ps.length := by rw [hfl] at hi; exact hi
    have h3 := fos_get (ps := ps) (sx := sx) hi'
    rw [List.getElem?_eq_getElem hi] at h3
    have := foAt_range hp sx hi'
    simp only [Option.some.injEq] at h3
    rw [h3]; omega) (by omega)
  rw [hfl, hgr] at hg
  ((repeat ((conv => whnf); first | refine brT ?_ | refine brF ?_)); conv => whnf)
  refine ⟨_, foundersOf_f ps us sx l40 hp, ?_⟩
  rw [show flatT (rowOw (fos ps sx)) = true from flat_ints _]
  ((repeat ((conv => whnf); first | refine brT ?_ | refine brF ?_)); conv => whnf)
  refine ⟨[], _, _, _, _, hg, rfl, rfl, rfl, trivial, ?_⟩
  ((repeat ((conv => whnf); first | refine brT ?_ | refine brF ?_)); conv => whnf)
  exact ⟨[.hs 0 ((linesT (foN ps sx) ps.length ps.length).map rowOw).length], rfl, rfl, .inr ⟨[.old 1], ⟨rfl, rfl, trivial⟩, ⟨rfl, rfl, trivial⟩, rfl⟩⟩
theorem rows_snoc (rs : List (List Int)) (r : List Int) : rs.map rowOw ++ [rowOw r] = (rs ++ [r]).map rowOw := by simp
theorem lines_spec (ps : List Per) (us : List Uni) (sx : Int) : HSpec env.P 55 [famLV ps us, .int .i64 sx] [] (.hs 0 ((linesL ps us sx).map rowOw).length) [.tree 38 1 ((linesL ps us sx).map rowOw)] := by
  refine HSpec_of_code (E := env.x [] 0) env_ok.x (fn := Try.f55) Try.func55 rfl Try.call55 _ _ _ _ ?_
  unfold linesL
  ((repeat ((conv => whnf); first | refine brT ?_ | refine brF ?_)); conv => whnf)
  refine ⟨_, l7Sex_spec sx, ?_⟩
  ((repeat ((conv => whnf); first | refine brT ?_ | refine brF ?_)); conv => whnf)
  cases h : sexB sx
  · rw [show notB false = true by simp [notB]]
    ((repeat ((conv => whnf); first | refine brT ?_ | refine brF ?_)); conv => whnf)
    exact ⟨[.hs 0 0], rfl, rfl, .nl [.tmp 0 [] true 38 1] [.old 1] ⟨⟨rfl, rfl, trivial⟩, ⟨rfl, rfl, trivial⟩, rfl⟩⟩
  rw [show notB true = false by simp [notB]]
  ((repeat ((conv => whnf); first | refine brT ?_ | refine brF ?_)); conv => whnf)
  refine ⟨_, isFamily_spec ps us, ?_⟩
  ((repeat ((conv => whnf); first | refine brT ?_ | refine brF ?_)); conv => whnf)
  cases h2 : famOk ps us
  · rw [show notB false = true by simp [notB]]
    ((repeat ((conv => whnf); first | refine brT ?_ | refine brF ?_)); conv => whnf)
    exact ⟨[.hs 0 0], rfl, rfl, .nl [.tmp 0 [] true 38 1] [.old 1] ⟨⟨rfl, rfl, trivial⟩, ⟨rfl, rfl, trivial⟩, rfl⟩⟩
  rw [show notB true = false by simp [notB]]
  obtain ⟨l40, _, hper, _⟩ := famOk_parts h2
  have hp := parsIn_of hper
  have hs12 := sexB_12 h
  have hP : (ps.map Per.lv).length = ps.length := List.length_map ..
  have hp' : ps.length ≤ Go.maxLen := by unfold Go.maxLen; omega
  have hle := fun p (hpl : p < ps.length) => foN_le hp sx hpl
  have hid := fun p (hpl : p < ps.length) => foN_self hp sx _ p (Nat.lt_succ_self p) hpl
  ((repeat ((conv => whnf); first | refine brT ?_ | refine brF ?_)); conv => whnf)
  intro _
  rw [hP]
  ((repeat ((conv => whnf); first | refine brT ?_ | refine brF ?_)); conv => whnf)
  refine loop_ruleR (α := Nat) [.old 0, .old 1] (fun k => [(21, .int .i64 (k : Int)), (17, .undef), (5, .hs 1 ((linesT (foN ps sx) ps.length k).map rowOw).length)]) (fun k => [.box (famLV ps us), .tree 38 1 ((linesT (foN ps sx) ps.length k).map rowOw)]) (fun k => ps.length - k) (fun k => k ≤ ps.length) 0 (Nat.zero_le _) ?_ ?_
  · refine ⟨?_, ⟨rfl, rfl, rfl, rfl, trivial⟩, rfl⟩
    ((repeat ((conv => whnf); refine ⟨rfl, rfl, ?_⟩)); trivial)
  intro k hk
  generalize hK : kk _ = KK
  ((repeat ((conv => whnf); first | refine brT ?_ | refine brF ?_)); conv => whnf)
  (refine ⟨fun g1 => ?_, fun g1 => ?_⟩ <;> rw [g1])
  · have hlt : k < ps.length := by rw [ltI_t] at g1; omega
    have e := step_i hlt hp'
    have hLS := linesT_succ (foN ps sx) ps.length k
    have hll := linesT_len (foN ps sx) ps.length k
    have hpos := memb_pos hid hle hlt
    ((repeat ((conv => whnf); first | refine brT ?_ | refine brF ?_)); conv => whnf)
    intro _
    rw [hP]
    ((repeat ((conv => whnf); first | refine brT ?_ | refine brF ?_)); conv => whnf)
    refine loop_ruleR (α := Nat) [.old 0, .old 1, .old 2] (fun i => [(28, .int .i64 (i : Int)), (24, .undef), (7, .hs 2 ((memb (foN ps sx) i k).map intLV).length)]) (fun i => [.box (famLV ps us), .tree 38 1 ((linesT (foN ps sx) ps.length k).map rowOw), .arr 3 1 ((memb (foN ps sx) i k).map intLV)]) (fun i => ps.length - i) (fun i => i ≤ ps.length) 0 (Nat.zero_le _) ?_ ?_
    · refine ⟨?_, ⟨rfl, rfl, rfl, rfl, rfl, rfl, trivial⟩, rfl⟩
      ((repeat ((conv => whnf); refine ⟨rfl, rfl, ?_⟩)); trivial)
    intro i hi
    generalize hK2 : kk _ = KK2
    ((repeat ((conv => whnf); first | refine brT ?_ | refine brF ?_)); conv => whnf)
    (refine ⟨fun g2 => ?_, fun g2 => ?_⟩ <;> rw [g2])
    · have hli : i < ps.length := by rw [ltI_t] at g2; omega
      have e2 := step_i hli hp'
      have hms := memb_succ (foN ps sx) i k
      have hml := memb_len (foN ps sx) (i + 1) k
      have hfc := foN_cast hp sx hli
      ((repeat ((conv => whnf); first | refine brT ?_ | refine brF ?_)); conv => whnf)
      refine ⟨_, l7Founder_spec ps us i sx hs12 hp hli, ?_⟩
      rw [hfc]
      ((repeat ((conv => whnf); first | refine brT ?_ | refine brF ?_)); conv => whnf)
      (refine ⟨fun g3 => ?_, fun g3 => ?_⟩ <;> rw [g3])
      · rw [eqI_t] at g3
        have hd : decide (foN ps sx i = k) = true := by simp; omega
        rw [hd] at hms
        have e3 : (memb (foN ps sx) i k).map intLV ++ [LV.int .i64 (i : Int)] = (memb (foN ps sx) (i + 1) k).map intLV := by rw [hms, List.map_append]; rfl
        ((repeat ((conv => whnf); first | refine brT ?_ | refine brF ?_)); conv => whnf)
        refine ⟨rfl, rfl, ?_, ?_, ?_⟩
        · rw [e3, List.length_map]; unfold Go.maxLen; omega
        · rw [e3]; show ((memb (foN ps sx) (i + 1) k).map intLV).length * 8 ≤ _; rw [List.length_map]; omega
        rw [e3]
        ((repeat ((conv => whnf); first | refine brT ?_ | refine brF ?_)); conv => whnf)
        subst hK2
        refine round_endR [.old 0, .old 1, .old 4] (i + 1) hli (by omega) ⟨?_, ⟨rfl, rfl, rfl, rfl, rfl, rfl, trivial⟩, rfl⟩
        ((repeat ((conv => whnf); first | refine ⟨rfl, e2, ?_⟩ | refine ⟨rfl, rfl, ?_⟩)); trivial)
      · rw [eqI_f] at g3
        have hd : decide (foN ps sx i = k) = false := by simp; omega
        rw [hd, List.append_nil] at hms
        have e3 : (memb (foN ps sx) i k).map intLV = (memb (foN ps sx) (i + 1) k).map intLV := by rw [hms]
        have e4 : LV.hs 2 ((memb (foN ps sx) i k).map intLV).length = LV.hs 2 ((memb (foN ps sx) (i + 1) k).map intLV).length := by rw [e3]
        ((repeat ((conv => whnf); first | refine brT ?_ | refine brF ?_)); conv => whnf)
        subst hK2
        refine round_endR [.old 0, .old 1, .old 2] (i + 1) hli (by omega) ⟨?_, ⟨rfl, rfl, rfl, rfl, rfl, congrArg (Blk.arr 3 1) e3, trivial⟩, rfl⟩
        repeat ((conv => whnf); first | refine ⟨rfl, e2, ?_⟩ | refine ⟨rfl, e4, ?_⟩ | refine ⟨rfl, rfl, ?_⟩)
        trivial
    have h4 : i = ps.length := by rw [ltI_f] at g2; omega
    subst h4
    subst hK2
    ((repeat ((conv => whnf); first | refine brT ?_ | refine brF ?_)); conv => whnf)
    refine ⟨rfl, fun _ => ?_⟩
    ((repeat ((conv => whnf); first | refine brT ?_ | refine brF ?_)); conv => whnf)
    (refine ⟨fun g4 => ?_, fun g4 => ?_⟩ <;> rw [g4])
    · have hd : decide (foN ps sx k = k) = true := by rw [ltI_t, List.length_map] at g4; simp; exact hpos.1 (by omega)
      rw [hd] at hLS
      have e5 := rows_snoc (linesT (foN ps sx) ps.length k) (memb (foN ps sx) ps.length k)
      rw [← hLS] at e5
      have hll2 := linesT_len (foN ps sx) ps.length (k + 1)
      ((repeat ((conv => whnf); first | refine brT ?_ | refine brF ?_)); conv => whnf)
      refine ⟨rfl, rfl, rfl, ?_, ?_, ?_⟩
      · show (((linesT (foN ps sx) ps.length k).map rowOw) ++ [rowOw (memb (foN ps sx) ps.length k)]).length ≤ _
        rw [e5, List.length_map]; unfold Go.maxLen; omega
      · show (((linesT (foN ps sx) ps.length k).map rowOw) ++ [rowOw (memb (foN ps sx) ps.length k)]).length * _ ≤ _
        rw [e5, List.length_map]; show _ * 24 ≤ _; omega
      ((repeat ((conv => whnf); first | refine brT ?_ | refine brF ?_)); conv => whnf)
      subst hK
      refine round_endR [.old 0, .old 4] (k + 1) hlt (by omega) ⟨?_, ⟨rfl, rfl, rfl, congrArg (Blk.tree 38 1) e5, trivial⟩, rfl⟩
      have e6 : LV.hs 1 (((linesT (foN ps sx) ps.length k).map rowOw) ++ [rowOw (memb (foN ps sx) ps.length k)]).length = LV.hs 1 ((linesT (foN ps sx) ps.length (k + 1)).map rowOw).length := by rw [e5]
      repeat ((conv => whnf); first | refine ⟨rfl, e, ?_⟩ | refine ⟨rfl, e6, ?_⟩ | refine ⟨rfl, rfl, ?_⟩)
      trivial
    · have hd : decide (foN ps sx k = k) = false := by
        rw [ltI_f, List.length_map] at g4; simp; intro hh; have := hpos.2 hh; omega
      rw [hd, List.append_nil] at hLS
      have e5 : (linesT (foN ps sx) ps.length k).map rowOw = (linesT (foN ps sx) ps.length (k + 1)).map rowOw := by rw [hLS]
      have e6 : LV.hs 1 ((linesT (foN ps sx) ps.length k).map rowOw).length = LV.hs 1 ((linesT (foN ps sx) ps.length (k + 1)).map rowOw).length := by rw [e5]
      ((repeat ((conv => whnf); first | refine brT ?_ | refine brF ?_)); conv => whnf)
      subst hK
      refine round_endR [.old 0, .old 1] (k + 1) hlt (by omega) ⟨?_, ⟨rfl, rfl, rfl, congrArg (Blk.tree 38 1) e5, trivial⟩, rfl⟩
      repeat ((conv => whnf); first | refine ⟨rfl, e, ?_⟩ | refine ⟨rfl, e6, ?_⟩ | refine ⟨rfl, rfl, ?_⟩)
      trivial
  have h4 : k = ps.length := by rw [ltI_f] at g1; omega
  subst h4
  subst hK
  ((repeat ((conv => whnf); first | refine brT ?_ | refine brF ?_)); conv => whnf)
  exact ⟨[.hs 0 ((linesT (foN ps sx) ps.length ps.length).map rowOw).length], rfl, rfl, .inr ⟨[.old 1], ⟨rfl, rfl, trivial⟩, ⟨rfl, rfl, trivial⟩, rfl⟩⟩
theorem linesL_tot (ps : List Per) (us : List Uni) (sx : Int) : tot (linesL ps us sx) ≤ 1600 := by
  unfold linesL
  split
  · rename_i h
    rw [Bool.and_eq_true] at h
    obtain ⟨l40, _⟩ := famOk_parts h.2
    have h1 := tot_le (m := ps.length) (rows := linesT (foN ps sx) ps.length ps.length) (fun r hr => linesT_row hr)
    have h2 := linesT_len (foN ps sx) ps.length ps.length
    have h3 : (linesT (foN ps sx) ps.length ps.length).length * ps.length ≤ 40 * 40 := Nat.mul_le_mul (by omega) l40
    omega
  · simp [tot]
theorem law_linesOf (ps : List Per) (us : List Uni) (sx : Int) (hf : FamOK ps us) : FSpec env.P 10 [famLV ps us, .int .i64 sx] (.bool true) := by
  refine FSpec_of_code (E := env.x [29, 55, 56, 43, 58] 0) env_ok.x (fn := Try.f10) Try.func10 rfl Try.call10 _ _ ?_
  have hI := lines_impl ps us sx
  have hS := lines_spec ps us sx
  have hT := linesL_tot ps us sx
  generalize linesL ps us sx = R at hI hS hT
  ((repeat ((conv => whnf); first | refine brT ?_ | refine brF ?_)); conv => whnf)
  refine ⟨_, szFamily_spec ps us _, ?_⟩
  ((repeat ((conv => whnf); first | refine brT ?_ | refine brF ?_)); conv => whnf)
  (refine ⟨fun h => ?_, fun h => ?_⟩ <;> rw [h])
  · ((repeat ((conv => whnf); first | refine brT ?_ | refine brF ?_)); conv => whnf); exact fin rfl
  rw [ltI_f] at h
  obtain ⟨p1, u1, s1⟩ := szFam_ok (by omega) (by omega) hf h
  ((repeat ((conv => whnf); first | refine brT ?_ | refine brF ?_)); conv => whnf)
  refine ⟨[], _, _, _, _, toFamily_hm ps us p1 u1, rfl, rfl, rfl, trivial, ?_⟩
  ((repeat ((conv => whnf); first | refine brT ?_ | refine brF ?_)); conv => whnf)
  refine ⟨[], _, _, _, _, hS, rfl, ?_⟩
  ((repeat ((conv => whnf); first | refine brT ?_ | refine brF ?_)); conv => whnf)
  refine ⟨rfl, ?_⟩
  ((repeat ((conv => whnf); first | refine brT ?_ | refine brF ?_)); conv => whnf)
  refine ⟨rfl, ?_⟩
  ((repeat ((conv => whnf); first | refine brT ?_ | refine brF ?_)); conv => whnf)
  refine ⟨rfl, rfl, ⟨rfl, flatTs_rows _, trivial⟩, ?_⟩
  ((repeat ((conv => whnf); first | refine brT ?_ | refine brF ?_)); conv => whnf)
  refine ⟨[], _, _, _, _, toFamily_hm ps us p1 u1, rfl, rfl, rfl, trivial, ?_⟩
  ((repeat ((conv => whnf); first | refine brT ?_ | refine brF ?_)); conv => whnf)
  refine ⟨[], _, _, _, _, hI, rfl, ?_⟩
  ((repeat ((conv => whnf); first | refine brT ?_ | refine brF ?_)); conv => whnf)
  refine ⟨rfl, ?_⟩
  ((repeat ((conv => whnf); first | refine brT ?_ | refine brF ?_)); conv => whnf)
  refine ⟨rfl, ?_⟩
  ((repeat ((conv => whnf); first | refine brT ?_ | refine brF ?_)); conv => whnf)
  refine ⟨rfl, rfl, ⟨rfl, flatTs_rows _, trivial⟩, ?_⟩
  ((repeat ((conv => whnf); first | refine brT ?_ | refine brF ?_)); conv => whnf)
  refine ⟨rfl, _, dms_rows _, ?_⟩
  ((repeat ((conv => whnf); first | refine brT ?_ | refine brF ?_)); conv => whnf)
  refine ⟨rfl, _, dms_rows _, ?_⟩
  ((repeat ((conv => whnf); first | refine brT ?_ | refine brF ?_)); conv => whnf)
  refine ⟨_, eqIntSS_spec R R, ?_⟩
  rw [eqRows_refl]
  ((repeat ((conv => whnf); first | refine brT ?_ | refine brF ?_)); conv => whnf)
  rw [show notB true = false by simp [notB]]
  ((repeat ((conv => whnf); first | refine brT ?_ | refine brF ?_)); conv => whnf)
  refine ⟨true, by kernel_rfl, ?_⟩
  ((repeat ((conv => whnf); first | refine brT ?_ | refine brF ?_)); conv => whnf)
  refine ⟨_, toFamily_spec ps us p1 u1, ?_⟩
  ((repeat ((conv => whnf); first | refine brT ?_ | refine brF ?_)); conv => whnf)
  refine ⟨rfl, ?_⟩
  ((repeat ((conv => whnf); first | refine brT ?_ | refine brF ?_)); conv => whnf)
  refine ⟨rfl, ?_⟩
  ((repeat ((conv => whnf); first | refine brT ?_ | refine brF ?_)); conv => whnf)
  refine ⟨_, eqFamily_spec ps ps us us, ?_⟩
  rw [eqFam_refl]
  ((repeat ((conv => whnf); first | refine brT ?_ | refine brF ?_)); conv => whnf)
  rw [show notB true = false by simp [notB]]
  ((repeat ((conv => whnf); first | refine brT ?_ | refine brF ?_)); conv => whnf)
  refine ⟨[4, 5], _, _, _, _, markFamily_hm ps us 1 (by omega), rfl, rfl, rfl, trivial, ?_⟩
  ((repeat ((conv => whnf); first | refine brT ?_ | refine brF ?_)); conv => whnf)
  rw [show ltI ((1 + 6 * ps.length + 4 * us.length : Nat) : Int) 0 = false by rw [ltI_f]; omega]
  ((repeat ((conv => whnf); first | refine brT ?_ | refine brF ?_)); conv => whnf)
  refine ⟨rfl, _, dms_rows _, ?_⟩
  ((repeat ((conv => whnf); first | refine brT ?_ | refine brF ?_)); conv => whnf)
  refine ⟨rfl, _, dms_rows _, ?_⟩
  ((repeat ((conv => whnf); first | refine brT ?_ | refine brF ?_)); conv => whnf)
  refine ⟨_, eqIntSS_spec R R, ?_⟩
  rw [eqRows_refl]
  ((repeat ((conv => whnf); first | refine brT ?_ | refine brF ?_)); conv => whnf)
  rw [show notB true = false by simp [notB]]
  ((repeat ((conv => whnf); first | refine brT ?_ | refine brF ?_)); conv => whnf)
  refine ⟨[7], _, _, _, _, markIntSS_spec R _ rfl 1 (by omega) (by omega), rfl, rfl, rfl, trivial, ?_⟩
  ((repeat ((conv => whnf); first | refine brT ?_ | refine brF ?_)); conv => whnf)
  refine ⟨by simp [markRows_len], _, dms_rows _, ?_⟩
  ((repeat ((conv => whnf); first | refine brT ?_ | refine brF ?_)); conv => whnf)
  refine ⟨_, heldIntSS_spec R 1 (by omega) (by omega), ?_⟩
  ((repeat ((conv => whnf); first | refine brT ?_ | refine brF ?_)); conv => whnf)
  rw [show ltI (1 + (tot R : Int)) 0 = false by rw [ltI_f]; omega]
  ((repeat ((conv => whnf); first | refine brT ?_ | refine brF ?_)); conv => whnf)
  rw [eqI_refl, show notB true = false by simp [notB]]
  ((repeat ((conv => whnf); first | refine brT ?_ | refine brF ?_)); conv => whnf)
  refine ⟨[], _, _, _, _, toFamily_hm ps us p1 u1, rfl, rfl, rfl, trivial, ?_⟩
  ((repeat ((conv => whnf); first | refine brT ?_ | refine brF ?_)); conv => whnf)
  refine ⟨[], _, _, _, _, hI, rfl, ?_⟩
  ((repeat ((conv => whnf); first | refine brT ?_ | refine brF ?_)); conv => whnf)
  refine ⟨rfl, ?_⟩
  ((repeat ((conv => whnf); first | refine brT ?_ | refine brF ?_)); conv => whnf)
  refine ⟨rfl, ?_⟩
  ((repeat ((conv => whnf); first | refine brT ?_ | refine brF ?_)); conv => whnf)
  refine ⟨rfl, rfl, ⟨rfl, flatTs_rows _, trivial⟩, ?_⟩
  ((repeat ((conv => whnf); first | refine brT ?_ | refine brF ?_)); conv => whnf)
  refine ⟨rfl, _, dms_rows _, ?_⟩
  ((repeat ((conv => whnf); first | refine brT ?_ | refine brF ?_)); conv => whnf)
  refine ⟨rfl, _, dms_rows _, ?_⟩
  ((repeat ((conv => whnf); first | refine brT ?_ | refine brF ?_)); conv => whnf)
  refine ⟨_, eqIntSS_spec R R, ?_⟩
  rw [eqRows_refl]
  ((repeat ((conv => whnf); first | refine brT ?_ | refine brF ?_)); conv => whnf)
  rw [show notB true = false by simp [notB]]
  ((repeat ((conv => whnf); first | refine brT ?_ | refine brF ?_)); conv => whnf)
  refine ⟨by simp [markRows_len], _, dms_rows _, ?_⟩
  ((repeat ((conv => whnf); first | refine brT ?_ | refine brF ?_)); conv => whnf)
  refine ⟨_, heldIntSS_spec R 1 (by omega) (by omega), ?_⟩
  ((repeat ((conv => whnf); first | refine brT ?_ | refine brF ?_)); conv => whnf)
  rw [show ltI (1 + (tot R : Int)) 0 = false by rw [ltI_f]; omega]
  ((repeat ((conv => whnf); first | refine brT ?_ | refine brF ?_)); conv => whnf)
  rw [eqI_refl, show notB true = false by simp [notB]]
  ((repeat ((conv => whnf); first | refine brT ?_ | refine brF ?_)); conv => whnf)
  exact fin rfl
end Go.Proofs.Ytdhmnojnkgmmnaa


namespace Go.Proofs.Ytdhmnojnkgmmnaa
open Go.Lg Go.RowKit Go.ChangeShapes Go.WideShapes Go.Deep Go.Joins
set_option linter.unusedVariables false
set_option linter.unusedSimpArgs false
set_option maxRecDepth 100000

theorem list_of {α : Type} {lv : α → LV} {Q : α → Prop} : ∀ (xs : List LV), (∀ x ∈ xs, ∃ p, x = lv p ∧ Q p) → ∃ ps : List α, xs = ps.map lv ∧ ∀ p ∈ ps, Q p
  | [], _ => ⟨[], rfl, by simp⟩
  | x :: xs, h => by
    obtain ⟨p, rfl, hp⟩ := h x (by simp)
    obtain ⟨ps, rfl, hps⟩ := list_of xs fun y hy => h y (by simp [hy])
    exact ⟨p :: ps, rfl, List.forall_mem_cons.2 ⟨hp, hps⟩⟩

section
variable {H : Type} {enc : TypeId × Value → H} {w : World}
end
end Go.Proofs.Ytdhmnojnkgmmnaa


namespace Go.Proofs.Ytdhmnojnkgmmnaa
open Go.Lg
set_option maxRecDepth 10000
set_option linter.unusedVariables false
set_option linter.unusedSimpArgs false

/-! ### A family, out of an argument's shape -/
abbrev shPer : Sh := .st [.str, .int .i64, .int .i64, .int .i64, .int .i64, .int .i64]
abbrev shUni : Sh := .st [.int .i64, .int .i64, .int .i64, .int .i64]
abbrev shFam : Sh := .st [.sl (.st [.str, .int .i64, .int .i64, .int .i64, .int .i64, .int .i64]), .sl (.st [.int .i64, .int .i64, .int .i64, .int .i64])]
theorem per_of_sh {x : LV} (h : hasSh shPer x) : ∃ p : Per, x = p.lv ∧ p.name.size ≤ maxLen := by
  simp only [hasSh] at h
  obtain ⟨xs, rfl, h⟩ := h
  match xs, h with
  | [a, b, c, d, e, f], h =>
    simp only [hasShs, hasSh] at h
    obtain ⟨⟨s, rfl, hs⟩, ⟨n1, rfl⟩, ⟨n2, rfl⟩, ⟨n3, rfl⟩, ⟨n4, rfl⟩, ⟨n5, rfl⟩, _⟩ := h
    exact ⟨⟨s, n1, n2, n3, n4, n5⟩, rfl, hs⟩
  | [], h => simp [hasShs] at h
  | [_], h => simp [hasShs] at h
  | [_, _], h => simp [hasShs] at h
  | [_, _, _], h => simp [hasShs] at h
  | [_, _, _, _], h => simp [hasShs] at h
  | [_, _, _, _, _], h => simp [hasShs] at h
  | _ :: _ :: _ :: _ :: _ :: _ :: _ :: _, h => simp [hasShs] at h
theorem uni_of_sh {x : LV} (h : hasSh shUni x) : ∃ u : Uni, x = u.lv ∧ True := by
  simp only [hasSh] at h
  obtain ⟨xs, rfl, h⟩ := h
  match xs, h with
  | [a, b, c, d], h =>
    simp only [hasShs, hasSh] at h
    obtain ⟨⟨n1, rfl⟩, ⟨n2, rfl⟩, ⟨n3, rfl⟩, ⟨n4, rfl⟩, _⟩ := h
    exact ⟨⟨n1, n2, n3, n4⟩, rfl, trivial⟩
  | [], h => simp [hasShs] at h
  | [_], h => simp [hasShs] at h
  | [_, _], h => simp [hasShs] at h
  | [_, _, _], h => simp [hasShs] at h
  | _ :: _ :: _ :: _ :: _ :: _, h => simp [hasShs] at h
theorem fam_of_sh {x : LV} (h : hasSh shFam x) : ∃ (ps : List Per) (us : List Uni), x = famLV ps us ∧ FamOK ps us := by
  simp only [hasSh] at h
  obtain ⟨xs, rfl, h⟩ := h
  match xs, h with
  | [a, b], h =>
    simp only [hasShs, hasSh] at h
    obtain ⟨⟨ys, rfl, hl, hy⟩, ⟨zs, rfl, hm, hz⟩, _⟩ := h
    obtain ⟨ps, rfl, hps⟩ := list_of (lv := Per.lv) (Q := fun p => p.name.size ≤ maxLen) ys fun y hy' => per_of_sh (by simp only [hasSh]; exact hy y hy')
    obtain ⟨us, rfl, _⟩ := list_of (lv := Uni.lv) (Q := fun _ => True) zs fun y hy' => uni_of_sh (by simp only [hasSh]; exact hz y hy')
    exact ⟨ps, us, rfl, ⟨by simpa using hl, by simpa using hm, hps⟩⟩
  | [], h => simp [hasShs] at h
  | [_], h => simp [hasShs] at h
  | _ :: _ :: _ :: _, h => simp [hasShs] at h
end Go.Proofs.Ytdhmnojnkgmmnaa

