/- Contracts of functions of the program and of its model, told over readings. -/
import Derived.Test.YtdhmnojnkgmmnaaFWGC
import Derived.Test.YtdhmnojnkgmmnaaFWGA
import Derived.Test.YtdhmnojnkgmmnaaFLgW
namespace Go.Proofs.Ytdhmnojnkgmmnaa
open Go.Lg
set_option maxHeartbeats 3200000
set_option maxRecDepth 10000
set_option linter.unusedVariables false
set_option linter.unusedSimpArgs false
set_option linter.unusedSectionVars false

def prK (p : Int × Int) : LV := .st [.int .i64 p.1, .int .i64 p.2]
theorem prK_inj (a b : Int × Int) (h : prK a = prK b) : a = b := by
  obtain ⟨a1, a2⟩ := a
  obtain ⟨b1, b2⟩ := b
  simp [prK] at h
  simp [h.1, h.2]
def inI (n : Int) : Prop := -9223372036854775808 ≤ n ∧ n ≤ 9223372036854775807
theorem keyP {p : Int × Int} (h1 : inI p.1) (h2 : inI p.2) : keyL (.pair .i64 .i64) (prK p) := by
  have w : ∀ n : Int, inI n → (Lit.int .i64 n).wf = true := fun n h => by
    simp only [Lit.wf, Bool.and_eq_true, decide_eq_true_eq]; exact h
  exact ⟨p.1, p.2, rfl, w _ h1, w _ h2⟩
theorem groupsByP_h (ks : List (Int × Int)) (hb : ∀ x ∈ ks, inI x.1 ∧ inI x.2) (hl : ks.length ≤ 40) :
    HSpec env.P 145 [.sl (ks.map prK)] [] (.hs 0 (trG (grpTo (0, 0) ks ks.length)).length) [.tree 38 1 (trG (grpTo (0, 0) ks ks.length))] := by
  refine HSpec_of_code (E := env.x [] 0) env_ok.x (fn := Try.f145) Try.func145 rfl Try.call145 _ _ _ _ ?_
  have hL : (ks.map prK).length = ks.length := List.length_map ..
  ((repeat ((conv => whnf); first | refine brT ?_ | refine brF ?_)); conv => whnf)
  intro hm
  have hm' : ks.length ≤ Go.maxLen := by rw [← hL]; exact hm
  ((repeat ((conv => whnf); first | refine brT ?_ | refine brF ?_)); conv => whnf)
  rw [hL]
  refine loop_ruleR (α := Nat) [.old 0, .nil 38 1] (fun k => [(12, .int .i64 (k : Int)), (3, .hs 1 (trG (grpTo (0, 0) ks k)).length)]) (fun k => [.mp (.pair .i64 .i64) (mpE prK (grpTo (0, 0) ks k)), .tree 38 1 (trG (grpTo (0, 0) ks k))]) (fun k => ks.length - k) (fun k => k ≤ ks.length) 0 (Nat.zero_le _) ?_ ?_
  · refine ⟨?_, ⟨rfl, rfl, rfl, rfl, trivial⟩, rfl⟩
    ((repeat ((conv => whnf); refine ⟨rfl, rfl, ?_⟩)); trivial)
  intro k hk
  generalize hK : kk _ = KK
  ((repeat ((conv => whnf); first | refine brT ?_ | refine brF ?_)); conv => whnf)
  (refine ⟨fun g1 => ?_, fun g1 => ?_⟩ <;> rw [g1])
  · have hlt : k < ks.length := by rw [ltI_t] at g1; omega
    have e := step_i hlt hm'
    have hx : ks.getD k (0, 0) = ks[k] := by simp [List.getD_eq_getElem?_getD, hlt]
    have hS : grpTo (0, 0) ks (k + 1) = addG ks[k] (k : Int) (grpTo (0, 0) ks k) := by rw [← hx]; rfl
    obtain ⟨b0, b1⟩ := hb ks[k] (List.getElem_mem hlt)
    have hlen := grp_len (0, 0) ks k
    have hrow := grp_row (0, 0) ks k
    have hkey := keyP b0 b1
    have htl := trG_len (grpTo (0, 0) ks k)
    ((repeat ((conv => whnf); first | refine brT ?_ | refine brF ?_)); conv => whnf)
    refine ⟨k, prK ks[k], rfl, by simp [hlt], rfl, ?_⟩
    generalize ks[k] = x at hS hkey
    generalize hG : grpTo (0, 0) ks k = g at hS hlen hrow htl
    rcases addG_cases x (k : Int) g with ⟨hno, hA⟩ | ⟨j, r, hj, hA⟩
    · have hmn := mpE_none (kl := prK) prK_inj hno
      ((repeat ((conv => whnf); first | refine brT ?_ | refine brF ?_)); conv => whnf)
      refine ⟨rfl, hkey, .inr ⟨hmn, rfl, ?_⟩⟩
      ((repeat ((conv => whnf); first | refine brT ?_ | refine brF ?_)); conv => whnf)
      rw [show notB false = true by simp [notB]]
      have hsn := mpE_snoc prK g x [(k : Int)]
      rw [← hA, ← hS] at hsn
      have hts : trG g ++ [rowOw [(k : Int)]] = trG (grpTo (0, 0) ks (k + 1)) := by rw [trG_snoc, ← hA, ← hS]
      ((repeat ((conv => whnf); first | refine brT ?_ | refine brF ?_)); conv => whnf)
      refine ⟨rfl, fun _ => ?_⟩
      ((repeat ((conv => whnf); first | refine brT ?_ | refine brF ?_)); conv => whnf)
      refine ⟨rfl, hkey, rfl, .inr ⟨hmn, mpE prK (grpTo (0, 0) ks (k + 1)), by rw [htl]; exact hsn, ?_⟩⟩
      ((repeat ((conv => whnf); first | refine brT ?_ | refine brF ?_)); conv => whnf)
      refine ⟨rfl, rfl, ?_, ?_, ?_⟩
      · simp [htl]; unfold Go.maxLen; omega
      · simp [htl]; show _ * 24 ≤ _; omega
      ((repeat ((conv => whnf); first | refine brT ?_ | refine brF ?_)); conv => whnf)
      refine ⟨rfl, rfl, (trG g).length, rfl, by simp, ?_⟩
      ((repeat ((conv => whnf); first | refine brT ?_ | refine brF ?_)); conv => whnf)
      refine ⟨rfl, .nil, .nil, by simp, rfl, ?_⟩
      ((repeat ((conv => whnf); first | refine brT ?_ | refine brF ?_)); conv => whnf)
      refine ⟨rfl, rfl, ?_⟩
      ((repeat ((conv => whnf); first | refine brT ?_ | refine brF ?_)); conv => whnf)
      refine ⟨rfl, ?_⟩
      ((repeat ((conv => whnf); first | refine brT ?_ | refine brF ?_)); conv => whnf)
      refine ⟨by show 1 ≤ Go.maxLen; unfold Go.maxLen; omega, by show 1 * 8 ≤ _; omega, ?_⟩
      ((repeat ((conv => whnf); first | refine brT ?_ | refine brF ?_)); conv => whnf)
      refine ⟨rfl, rfl, (trG g).length, rfl, by simp, ?_⟩
      ((repeat ((conv => whnf); first | refine brT ?_ | refine brF ?_)); conv => whnf)
      refine ⟨rfl, ?_⟩
      ((repeat ((conv => whnf); first | refine brT ?_ | refine brF ?_)); conv => whnf)
      have hts2 : (trG g ++ [LV.nil]).set (trG g).length (rowOw [(k : Int)]) = trG (grpTo (0, 0) ks (k + 1)) := by
        rw [← hts, List.set_append_right _ _ (Nat.le_refl _), Nat.sub_self]; rfl
      have hl2 : LV.hs 1 (trG g ++ [LV.nil]).length = LV.hs 1 (trG (grpTo (0, 0) ks (k + 1))).length := by rw [← hts]; simp
      refine ⟨rfl, rfl, .nil, .nil, trG (grpTo (0, 0) ks (k + 1)), by simp, rfl, rfl, hts2, ?_⟩
      ((repeat ((conv => whnf); first | refine brT ?_ | refine brF ?_)); conv => whnf)
      subst hK
      refine round_endR [.old 0, .old 4] (k + 1) hlt (by omega) ⟨?_, ⟨rfl, rfl, rfl, rfl, trivial⟩, rfl⟩
      repeat ((conv => whnf); first | refine ⟨rfl, e, ?_⟩ | refine ⟨rfl, hl2, ?_⟩ | refine ⟨rfl, rfl, ?_⟩)
      trivial
    · ((repeat ((conv => whnf); first | refine brT ?_ | refine brF ?_)); conv => whnf)
      refine ⟨rfl, hkey, .inl ⟨j, _, mpE_get hj, rfl, ?_⟩⟩
      ((repeat ((conv => whnf); first | refine brT ?_ | refine brF ?_)); conv => whnf)
      rw [show notB true = false by simp [notB]]
      have hjl := lt_of_get hj
      ((repeat ((conv => whnf); first | refine brT ?_ | refine brF ?_)); conv => whnf)
      refine ⟨rfl, rfl, j, rfl, by rw [htl]; exact hjl, ?_⟩
      ((repeat ((conv => whnf); first | refine brT ?_ | refine brF ?_)); conv => whnf)
      refine ⟨rfl, _, _, trG_get hj, rfl, ?_⟩
      have hrl : r.length ≤ k := hrow _ (List.mem_of_getElem? hj)
      have e3 : r.map intLV ++ [LV.int .i64 (k : Int)] = (r ++ [(k : Int)]).map intLV := by rw [List.map_append]; rfl
      ((repeat ((conv => whnf); first | refine brT ?_ | refine brF ?_)); conv => whnf)
      refine ⟨rfl, rfl, ?_, ?_, ?_⟩
      · rw [e3, List.length_map, List.length_append]; unfold Go.maxLen; simp; omega
      · rw [e3]; show ((r ++ [(k : Int)]).map intLV).length * 8 ≤ _; rw [List.length_map, List.length_append]; simp; omega
      rw [e3]
      ((repeat ((conv => whnf); first | refine brT ?_ | refine brF ?_)); conv => whnf)
      refine ⟨by simp, rfl, j, rfl, by simp [htl]; exact hjl, ?_⟩
      ((repeat ((conv => whnf); first | refine brT ?_ | refine brF ?_)); conv => whnf)
      refine ⟨rfl, ?_⟩
      ((repeat ((conv => whnf); first | refine brT ?_ | refine brF ?_)); conv => whnf)
      have hts : ((trG g).set j .undef).set j (rowOw (r ++ [(k : Int)])) = trG (grpTo (0, 0) ks (k + 1)) := by rw [List.set_set, trG_set (x := x), ← hA, ← hS]
      have hms := mpE_set (kl := prK) (r' := r ++ [(k : Int)]) hj
      rw [← hA, ← hS] at hms
      have hl2 : LV.hs 1 (trG g).length = LV.hs 1 (trG (grpTo (0, 0) ks (k + 1))).length := by rw [← hts]; simp
      refine ⟨(List.length_set ..).symm, rfl, .undef, .undef, trG (grpTo (0, 0) ks (k + 1)), List.getElem?_set_self (by rw [htl]; exact hjl), rfl, rfl, hts, ?_⟩
      ((repeat ((conv => whnf); first | refine brT ?_ | refine brF ?_)); conv => whnf)
      subst hK
      refine round_endR [.old 0, .old 1] (k + 1) hlt (by omega) ⟨?_, ⟨rfl, congrArg (Blk.mp (.pair .i64 .i64)) hms.symm, rfl, rfl, trivial⟩, rfl⟩
      repeat ((conv => whnf); first | refine ⟨rfl, e, ?_⟩ | refine ⟨rfl, hl2, ?_⟩ | refine ⟨rfl, rfl, ?_⟩)
      trivial
  · have h4 : k = ks.length := by rw [ltI_f] at g1; omega
    subst h4
    subst hK
    ((repeat ((conv => whnf); first | refine brT ?_ | refine brF ?_)); conv => whnf)
    exact ⟨[.hs 0 (trG (grpTo (0, 0) ks ks.length)).length], rfl, rfl, .inr ⟨[.old 1], ⟨rfl, rfl, trivial⟩, ⟨rfl, rfl, trivial⟩, rfl⟩⟩
end Go.Proofs.Ytdhmnojnkgmmnaa


namespace Go.Proofs.Ytdhmnojnkgmmnaa
open Go.Lg Go.Pm
set_option maxHeartbeats 3200000
set_option maxRecDepth 10000
set_option linter.unusedVariables false
set_option linter.unusedSimpArgs false

/-- The founders of the man's and of the woman's line. -/
def dbK (ps : List Per) (p : Nat) : Int × Int := (foAt ps 1 p, foAt ps 2 p)
def dbL (ps : List Per) (k : Nat) : List (Int × Int) := (List.range k).map (dbK ps)
theorem dbL_succ (ps : List Per) (k : Nat) : (dbL ps (k + 1)).map prK = (dbL ps k).map prK ++ [prK (dbK ps k)] := by
  unfold dbL; rw [List.range_succ, List.map_append, List.map_append]; rfl
theorem dbL_len (ps : List Per) (k : Nat) : (dbL ps k).length = k := by simp [dbL]
theorem dbL_get {ps : List Per} {n p : Nat} (h : p < n) : (dbL ps n).getD p (0, 0) = dbK ps p := by
  unfold dbL; rw [List.getD_eq_getElem?_getD, List.getElem?_map, List.getElem?_range h]; rfl
def doubleL (ps : List Per) (us : List Uni) : List (List Int) := match famOk ps us with | true => grpK (dbK ps) ps.length ps.length | false => []
theorem double_impl (ps : List Per) (us : List Uni) : HSpec env.P 61 [famLV ps us] [] (.hs 0 ((doubleL ps us).map rowOw).length) [.tree 38 1 ((doubleL ps us).map rowOw)] := by
  refine HSpec_of_code (E := env.x [145] 0) env_ok.x (fn := Try.f61) Try.func61 rfl Try.call61 _ _ _ _ ?_
  unfold doubleL
  ((repeat ((conv => whnf); first | refine brT ?_ | refine brF ?_)); conv => whnf)
  refine ⟨_, isFamily_impl ps us, ?_⟩
  ((repeat ((conv => whnf); first | refine brT ?_ | refine brF ?_)); conv => whnf)
  cases h2 : famOk ps us
  · rw [show notB false = true by simp [notB]]
    ((repeat ((conv => whnf); first | refine brT ?_ | refine brF ?_)); conv => whnf)
    exact ⟨[.hs 0 0], rfl, rfl, .nl [.tmp 0 [] true 38 1] [.old 1] ⟨⟨rfl, rfl, trivial⟩, ⟨rfl, rfl, trivial⟩, rfl⟩⟩
  rw [show notB true = false by simp [notB]]
  obtain ⟨l40, _, hper, _⟩ := famOk_parts h2
  have hp := parsIn_of hper
  have hf1 := fos_len ps 1
  have hl1 : ((fos ps 1).map intLV).length = ps.length := by rw [List.length_map, hf1]
  have hp' : ps.length ≤ Go.maxLen := by unfold Go.maxLen; omega
  have hgr := grp_grpK (key := dbK ps) (n := ps.length) (d := (0, 0)) (ks := dbL ps ps.length) (fun p hpl => dbL_get hpl)
  have hdl := dbL_len ps ps.length
  have hg := groupsByP_h (dbL ps ps.length) (fun x hx => by
    obtain ⟨i, hi, rfl⟩ := List.mem_map.1 hx
    have hi := List.mem_range.1 hi
    have h1 := foAt_range hp 1 hi
    have h3 := foAt_range hp 2 hi
    unfold inI dbK
    omega) (by omega)
  rw [hdl, hgr] at hg
  ((repeat ((conv => whnf); first | refine brT ?_ | refine brF ?_)); conv => whnf)
  refine ⟨_, foundersOf_f ps us 2 l40 hp, ?_⟩
  rw [show flatT (rowOw (fos ps 2)) = true from flat_ints _]
  ((repeat ((conv => whnf); first | refine brT ?_ | refine brF ?_)); conv => whnf)
  refine ⟨_, foundersOf_f ps us 1 l40 hp, ?_⟩
  rw [show flatT (rowOw (fos ps 1)) = true from flat_ints _]
  ((repeat ((conv => whnf); first | refine brT ?_ | refine brF ?_)); conv => whnf)
  intro _
  ((repeat ((conv => whnf); first | refine brT ?_ | refine brF ?_)); conv => whnf)
  rw [hl1]
  refine loop_ruleR (α := Nat) [.old 0, .nil 144 2] (fun k => [(15, .int .i64 (k : Int)), (3, .hs 1 ((dbL ps k).map prK).length)]) (fun k => [.box (famLV ps us), .arr 144 2 ((dbL ps k).map prK)]) (fun k => ps.length - k) (fun k => k ≤ ps.length) 0 (Nat.zero_le _) ?_ ?_
  · refine ⟨?_, ⟨rfl, rfl, rfl, rfl, trivial⟩, rfl⟩
    ((repeat ((conv => whnf); refine ⟨rfl, rfl, ?_⟩)); trivial)
  intro k hk
  generalize hK : kk _ = KK
  ((repeat ((conv => whnf); first | refine brT ?_ | refine brF ?_)); conv => whnf)
  (refine ⟨fun g1 => ?_, fun g1 => ?_⟩ <;> rw [g1])
  · have hlt : k < ps.length := by rw [ltI_t] at g1; omega
    have e := step_i hlt hp'
    have hsu := dbL_succ ps k
    have hd1 := dbL_len ps k
    have q1 : ((fos ps 1).map intLV)[k]? = some (intLV (foAt ps 1 k)) := by rw [List.getElem?_map, fos_get hlt]; rfl
    have q2 : ((fos ps 2).map intLV)[k]? = some (intLV (foAt ps 2 k)) := by rw [List.getElem?_map, fos_get hlt]; rfl
    have hs1 : ((dbL ps k).map prK ++ [prK (dbK ps k)]).length = k + 1 := by rw [List.length_append, List.length_map, hd1]; rfl
    ((repeat ((conv => whnf); first | refine brT ?_ | refine brF ?_)); conv => whnf)
    refine ⟨k, _, rfl, q1, rfl, ?_⟩
    ((repeat ((conv => whnf); first | refine brT ?_ | refine brF ?_)); conv => whnf)
    refine ⟨k, _, rfl, q2, rfl, ?_⟩
    ((repeat ((conv => whnf); first | refine brT ?_ | refine brF ?_)); conv => whnf)
    refine ⟨rfl, rfl, ?_, ?_, ?_⟩
    · show ((dbL ps k).map prK ++ [prK (dbK ps k)]).length ≤ _
      rw [hs1]; unfold Go.maxLen; omega
    · show ((dbL ps k).map prK ++ [prK (dbK ps k)]).length * _ ≤ _
      rw [hs1]; show (k + 1) * 16 ≤ _; omega
    ((repeat ((conv => whnf); first | refine brT ?_ | refine brF ?_)); conv => whnf)
    subst hK
    have hl2 : LV.hs 1 ((dbL ps k).map prK ++ [prK (dbK ps k)]).length = LV.hs 1 ((dbL ps (k + 1)).map prK).length := by rw [hsu]
    refine round_endR [.old 0, .old 3] (k + 1) hlt (by omega) ⟨?_, ⟨rfl, rfl, rfl, congrArg (Blk.arr 144 2) hsu.symm, trivial⟩, rfl⟩
    repeat ((conv => whnf); first | refine ⟨rfl, e, ?_⟩ | refine ⟨rfl, hl2, ?_⟩ | refine ⟨rfl, rfl, ?_⟩)
    trivial
  have h4 : k = ps.length := by rw [ltI_f] at g1; omega
  subst h4
  subst hK
  ((repeat ((conv => whnf); first | refine brT ?_ | refine brF ?_)); conv => whnf)
  refine ⟨[], _, _, _, _, hg, rfl, ?_⟩
  ((repeat ((conv => whnf); first | refine brT ?_ | refine brF ?_)); conv => whnf)
  refine ⟨rfl, ?_⟩
  ((repeat ((conv => whnf); first | refine brT ?_ | refine brF ?_)); conv => whnf)
  refine ⟨rfl, rfl, ⟨rfl, flatTs_rows _, trivial⟩, ?_⟩
  ((repeat ((conv => whnf); first | refine brT ?_ | refine brF ?_)); conv => whnf)
  exact ⟨[.hs 0 ((grpK (dbK ps) ps.length ps.length).map rowOw).length], rfl, rfl, .inr ⟨[.old 2], ⟨rfl, rfl, trivial⟩, ⟨rfl, rfl, trivial⟩, rfl⟩⟩
theorem double_spec (ps : List Per) (us : List Uni) : HSpec env.P 60 [famLV ps us] [] (.hs 0 ((doubleL ps us).map rowOw).length) [.tree 38 1 ((doubleL ps us).map rowOw)] := by
  refine HSpec_of_code (E := env.x [] 0) env_ok.x (fn := Try.f60) Try.func60 rfl Try.call60 _ _ _ _ ?_
  unfold doubleL
  ((repeat ((conv => whnf); first | refine brT ?_ | refine brF ?_)); conv => whnf)
  refine ⟨_, isFamily_spec ps us, ?_⟩
  ((repeat ((conv => whnf); first | refine brT ?_ | refine brF ?_)); conv => whnf)
  cases h2 : famOk ps us
  · rw [show notB false = true by simp [notB]]
    ((repeat ((conv => whnf); first | refine brT ?_ | refine brF ?_)); conv => whnf)
    exact ⟨[.hs 0 0], rfl, rfl, .nl [.tmp 0 [] true 38 1] [.old 1] ⟨⟨rfl, rfl, trivial⟩, ⟨rfl, rfl, trivial⟩, rfl⟩⟩
  rw [show notB true = false by simp [notB]]
  obtain ⟨l40, _, hper, _⟩ := famOk_parts h2
  have hp := parsIn_of hper
  have hP : (ps.map Per.lv).length = ps.length := List.length_map ..
  have hp' : ps.length ≤ Go.maxLen := by unfold Go.maxLen; omega
  ((repeat ((conv => whnf); first | refine brT ?_ | refine brF ?_)); conv => whnf)
  intro _
  rw [hP]
  ((repeat ((conv => whnf); first | refine brT ?_ | refine brF ?_)); conv => whnf)
  refine loop_ruleR (α := Nat) [.old 0, .old 1] (fun k => [(14, .int .i64 (k : Int)), (10, .undef), (3, .hs 1 ((grpK (dbK ps) ps.length k).map rowOw).length)]) (fun k => [.box (famLV ps us), .tree 38 1 ((grpK (dbK ps) ps.length k).map rowOw)]) (fun k => ps.length - k) (fun k => k ≤ ps.length) 0 (Nat.zero_le _) ?_ ?_
  · refine ⟨?_, ⟨rfl, rfl, rfl, rfl, trivial⟩, rfl⟩
    ((repeat ((conv => whnf); refine ⟨rfl, rfl, ?_⟩)); trivial)
  intro k hk
  generalize hK : kk _ = KK
  ((repeat ((conv => whnf); first | refine brT ?_ | refine brF ?_)); conv => whnf)
  (refine ⟨fun g1 => ?_, fun g1 => ?_⟩ <;> rw [g1])
  · have hlt : k < ps.length := by rw [ltI_t] at g1; omega
    have e := step_i hlt hp'
    have hLS := grpK_succ (dbK ps) ps.length k
    have hll := grpK_len (dbK ps) ps.length k
    ((repeat ((conv => whnf); first | refine brT ?_ | refine brF ?_)); conv => whnf)
    intro _
    rw [hP]
    ((repeat ((conv => whnf); first | refine brT ?_ | refine brF ?_)); conv => whnf)
    refine loop_ruleR (α := Nat) [.old 0, .old 1, .old 2] (fun i => [(21, .int .i64 (i : Int)), (17, .undef), (5, .hs 2 ((memK (dbK ps) i k).map intLV).length)]) (fun i => [.box (famLV ps us), .tree 38 1 ((grpK (dbK ps) ps.length k).map rowOw), .arr 3 1 ((memK (dbK ps) i k).map intLV)]) (fun i => ps.length - i) (fun i => i ≤ ps.length) 0 (Nat.zero_le _) ?_ ?_
    · refine ⟨?_, ⟨rfl, rfl, rfl, rfl, rfl, rfl, trivial⟩, rfl⟩
      ((repeat ((conv => whnf); refine ⟨rfl, rfl, ?_⟩)); trivial)
    intro i hi
    generalize hK2 : kk _ = KK2
    ((repeat ((conv => whnf); first | refine brT ?_ | refine brF ?_)); conv => whnf)
    (refine ⟨fun g2 => ?_, fun g2 => ?_⟩ <;> rw [g2])
    · have hli : i < ps.length := by rw [ltI_t] at g2; omega
      have e2 := step_i hli hp'
      have hms := memK_succ (dbK ps) i k
      have hml := memK_len (dbK ps) (i + 1) k
      have same : ∀ b : Bool, decide (dbK ps i = dbK ps k) = b → memK (dbK ps) (i + 1) k = memK (dbK ps) i k ++ (match b with | true => [(i : Int)] | false => []) := fun b hb => by
        rw [hms, hb]
        all_goals (cases b <;> rfl)
      ((repeat ((conv => whnf); first | refine brT ?_ | refine brF ?_)); conv => whnf)
      refine ⟨true, by kernel_rfl, ?_⟩
      ((repeat ((conv => whnf); first | refine brT ?_ | refine brF ?_)); conv => whnf)
      refine ⟨_, l7Founder_spec ps us k 1 (.inl rfl) hp hlt, ?_⟩
      ((repeat ((conv => whnf); first | refine brT ?_ | refine brF ?_)); conv => whnf)
      refine ⟨_, l7Founder_spec ps us i 1 (.inl rfl) hp hli, ?_⟩
      ((repeat ((conv => whnf); first | refine brT ?_ | refine brF ?_)); conv => whnf)
      (refine ⟨fun g3 => ?_, fun g3 => ?_⟩ <;> rw [g3])
      · ((repeat ((conv => whnf); first | refine brT ?_ | refine brF ?_)); conv => whnf)
        refine ⟨_, l7Founder_spec ps us k 2 (.inr rfl) hp hlt, ?_⟩
        ((repeat ((conv => whnf); first | refine brT ?_ | refine brF ?_)); conv => whnf)
        refine ⟨_, l7Founder_spec ps us i 2 (.inr rfl) hp hli, ?_⟩
        ((repeat ((conv => whnf); first | refine brT ?_ | refine brF ?_)); conv => whnf)
        (refine ⟨fun g4 => ?_, fun g4 => ?_⟩ <;> rw [g4])
        · rw [eqI_t] at g3 g4
          have hms := same true (by simp [dbK, g3, g4])
          have e3 : (memK (dbK ps) i k).map intLV ++ [LV.int .i64 (i : Int)] = (memK (dbK ps) (i + 1) k).map intLV := by rw [hms, List.map_append]; rfl
          ((repeat ((conv => whnf); first | refine brT ?_ | refine brF ?_)); conv => whnf)
          refine ⟨rfl, rfl, ?_, ?_, ?_⟩
          · rw [e3, List.length_map]; unfold Go.maxLen; omega
          · rw [e3]; show ((memK (dbK ps) (i + 1) k).map intLV).length * 8 ≤ _; rw [List.length_map]; omega
          rw [e3]
          ((repeat ((conv => whnf); first | refine brT ?_ | refine brF ?_)); conv => whnf)
          subst hK2
          refine round_endR [.old 0, .old 1, .old 4] (i + 1) hli (by omega) ⟨?_, ⟨rfl, rfl, rfl, rfl, rfl, rfl, trivial⟩, rfl⟩
          ((repeat ((conv => whnf); first | refine ⟨rfl, e2, ?_⟩ | refine ⟨rfl, rfl, ?_⟩)); trivial)
        · rw [eqI_f] at g4
          have hms := same false (by simp [dbK]; intro _ hh; exact g4 hh.symm)
          rw [List.append_nil] at hms
          have e3 : (memK (dbK ps) i k).map intLV = (memK (dbK ps) (i + 1) k).map intLV := by rw [hms]
          have e4 : LV.hs 2 ((memK (dbK ps) i k).map intLV).length = LV.hs 2 ((memK (dbK ps) (i + 1) k).map intLV).length := by rw [e3]
          ((repeat ((conv => whnf); first | refine brT ?_ | refine brF ?_)); conv => whnf)
          subst hK2
          refine round_endR [.old 0, .old 1, .old 2] (i + 1) hli (by omega) ⟨?_, ⟨rfl, rfl, rfl, rfl, rfl, congrArg (Blk.arr 3 1) e3, trivial⟩, rfl⟩
          repeat ((conv => whnf); first | refine ⟨rfl, e2, ?_⟩ | refine ⟨rfl, e4, ?_⟩ | refine ⟨rfl, rfl, ?_⟩)
          trivial
      · rw [eqI_f] at g3
        have hms := same false (by simp [dbK]; intro hh; exact absurd hh.symm g3)
        rw [List.append_nil] at hms
        have e3 : (memK (dbK ps) i k).map intLV = (memK (dbK ps) (i + 1) k).map intLV := by rw [hms]
        have e4 : LV.hs 2 ((memK (dbK ps) i k).map intLV).length = LV.hs 2 ((memK (dbK ps) (i + 1) k).map intLV).length := by rw [e3]
        ((repeat ((conv => whnf); first | refine brT ?_ | refine brF ?_)); conv => whnf)
        subst hK2
        refine round_endR [.old 0, .old 1, .old 2] (i + 1) hli (by omega) ⟨?_, ⟨rfl, rfl, rfl, rfl, rfl, congrArg (Blk.arr 3 1) e3, trivial⟩, rfl⟩
        repeat ((conv => whnf); first | refine ⟨rfl, e2, ?_⟩ | refine ⟨rfl, e4, ?_⟩ | refine ⟨rfl, rfl, ?_⟩)
        trivial
    have h4 : i = ps.length := by rw [ltI_f] at g2; omega
    subst h4
    subst hK2
    obtain ⟨x, r, hx, hxf⟩ := memK_head (key := dbK ps) hlt
    have h0 : ((memK (dbK ps) ps.length k).map intLV)[0]? = some (intLV (x : Int)) := by rw [hx]; rfl
    have h0l : 0 < ((memK (dbK ps) ps.length k).map intLV).length := by rw [hx]; simp
    ((repeat ((conv => whnf); first | refine brT ?_ | refine brF ?_)); conv => whnf)
    refine ⟨rfl, rfl, 0, rfl, h0l, ?_⟩
    ((repeat ((conv => whnf); first | refine brT ?_ | refine brF ?_)); conv => whnf)
    refine ⟨rfl, by simp, _, by simp only [getP]; rw [h0], rfl, ?_⟩
    ((repeat ((conv => whnf); first | refine brT ?_ | refine brF ?_)); conv => whnf)
    (refine ⟨fun g5 => ?_, fun g5 => ?_⟩ <;> rw [g5])
    · have hd : firstB (dbK ps) k = true := by
        rw [eqI_t] at g5
        exact hxf.1 (by omega)
      rw [hd] at hLS
      have e5 := rows_snoc (grpK (dbK ps) ps.length k) (memK (dbK ps) ps.length k)
      rw [← hLS] at e5
      have hll2 := grpK_len (dbK ps) ps.length (k + 1)
      ((repeat ((conv => whnf); first | refine brT ?_ | refine brF ?_)); conv => whnf)
      refine ⟨rfl, rfl, rfl, ?_, ?_, ?_⟩
      · show (((grpK (dbK ps) ps.length k).map rowOw) ++ [rowOw (memK (dbK ps) ps.length k)]).length ≤ _
        rw [e5, List.length_map]; unfold Go.maxLen; omega
      · show (((grpK (dbK ps) ps.length k).map rowOw) ++ [rowOw (memK (dbK ps) ps.length k)]).length * _ ≤ _
        rw [e5, List.length_map]; show _ * 24 ≤ _; omega
      ((repeat ((conv => whnf); first | refine brT ?_ | refine brF ?_)); conv => whnf)
      subst hK
      have e6 : LV.hs 1 (((grpK (dbK ps) ps.length k).map rowOw) ++ [rowOw (memK (dbK ps) ps.length k)]).length = LV.hs 1 ((grpK (dbK ps) ps.length (k + 1)).map rowOw).length := by rw [e5]
      refine round_endR [.old 0, .old 4] (k + 1) hlt (by omega) ⟨?_, ⟨rfl, rfl, rfl, congrArg (Blk.tree 38 1) e5, trivial⟩, rfl⟩
      repeat ((conv => whnf); first | refine ⟨rfl, e, ?_⟩ | refine ⟨rfl, e6, ?_⟩ | refine ⟨rfl, rfl, ?_⟩)
      trivial
    · have hd : firstB (dbK ps) k = false := by
        rw [eqI_f] at g5
        apply Bool.eq_false_iff.2
        intro hh
        have := hxf.2 hh
        omega
      rw [hd, List.append_nil] at hLS
      have e5 : (grpK (dbK ps) ps.length k).map rowOw = (grpK (dbK ps) ps.length (k + 1)).map rowOw := by rw [hLS]
      have e6 : LV.hs 1 ((grpK (dbK ps) ps.length k).map rowOw).length = LV.hs 1 ((grpK (dbK ps) ps.length (k + 1)).map rowOw).length := by rw [e5]
      ((repeat ((conv => whnf); first | refine brT ?_ | refine brF ?_)); conv => whnf)
      subst hK
      refine round_endR [.old 0, .old 1] (k + 1) hlt (by omega) ⟨?_, ⟨rfl, rfl, rfl, congrArg (Blk.tree 38 1) e5, trivial⟩, rfl⟩
      repeat ((conv => whnf); first | refine ⟨rfl, e, ?_⟩ | refine ⟨rfl, e6, ?_⟩ | refine ⟨rfl, rfl, ?_⟩)
      trivial
  have h4 : k = ps.length := by rw [ltI_f] at g1; omega
  subst h4
  subst hK
  ((repeat ((conv => whnf); first | refine brT ?_ | refine brF ?_)); conv => whnf)
  exact ⟨[.hs 0 ((grpK (dbK ps) ps.length ps.length).map rowOw).length], rfl, rfl, .inr ⟨[.old 1], ⟨rfl, rfl, trivial⟩, ⟨rfl, rfl, trivial⟩, rfl⟩⟩
theorem doubleL_tot (ps : List Per) (us : List Uni) : tot (doubleL ps us) ≤ 1600 := by
  unfold doubleL
  split
  · rename_i h
    obtain ⟨l40, _⟩ := famOk_parts h
    have h1 := tot_le (m := ps.length) (rows := grpK (dbK ps) ps.length ps.length) (fun r hr => grpK_row hr)
    have h2 := grpK_len (dbK ps) ps.length ps.length
    have h3 : (grpK (dbK ps) ps.length ps.length).length * ps.length ≤ 40 * 40 := Nat.mul_le_mul (by omega) l40
    omega
  · simp [tot]
theorem law_doubleLines (ps : List Per) (us : List Uni) (hf : FamOK ps us) : FSpec env.P 11 [famLV ps us] (.bool true) := by
  refine FSpec_of_code (E := env.x [29, 60, 61, 43, 58] 0) env_ok.x (fn := Try.f11) Try.func11 rfl Try.call11 _ _ ?_
  have hI := double_impl ps us
  have hS := double_spec ps us
  have hT := doubleL_tot ps us
  generalize doubleL ps us = R at hI hS hT
  ((repeat ((conv => whnf); first | refine brT ?_ | refine brF ?_)); conv => whnf)
  refine ⟨_, szFamily_spec ps us _, ?_⟩
  ((repeat ((conv => whnf); first | refine brT ?_ | refine brF ?_)); conv => whnf)
  (refine ⟨fun h => ?_, fun h => ?_⟩ <;> rw [h])
  · ((repeat ((conv => whnf); first | refine brT ?_ | refine brF ?_)); conv => whnf); exact fin rfl
  rw [ltI_f] at h
  obtain ⟨p1, u1, s1⟩ := szFam_ok (by omega) (by omega) hf h
  ((repeat ((conv => whnf); first | refine brT ?_ | refine brF ?_)); conv => whnf)
  refine ⟨[], _, _, _, _, toFamily_hm ps us p1 u1, rfl, rfl, rfl, trivial, ?_⟩
  ((repeat ((conv => whnf); first | refine brT ?_ | refine brF ?_)); conv => whnf)
  refine ⟨[], _, _, _, _, hS, rfl, ?_⟩
  ((repeat ((conv => whnf); first | refine brT ?_ | refine brF ?_)); conv => whnf)
  refine ⟨rfl, ?_⟩
  ((repeat ((conv => whnf); first | refine brT ?_ | refine brF ?_)); conv => whnf)
  refine ⟨rfl, ?_⟩
  ((repeat ((conv => whnf); first | refine brT ?_ | refine brF ?_)); conv => whnf)
  refine ⟨rfl, rfl, ⟨rfl, flatTs_rows _, trivial⟩, ?_⟩
  ((repeat ((conv => whnf); first | refine brT ?_ | refine brF ?_)); conv => whnf)
  refine ⟨[], _, _, _, _, toFamily_hm ps us p1 u1, rfl, rfl, rfl, trivial, ?_⟩
  ((repeat ((conv => whnf); first | refine brT ?_ | refine brF ?_)); conv => whnf)
  refine ⟨[], _, _, _, _, hI, rfl, ?_⟩
  ((repeat ((conv => whnf); first | refine brT ?_ | refine brF ?_)); conv => whnf)
  refine ⟨rfl, ?_⟩
  ((repeat ((conv => whnf); first | refine brT ?_ | refine brF ?_)); conv => whnf)
  refine ⟨rfl, ?_⟩
  ((repeat ((conv => whnf); first | refine brT ?_ | refine brF ?_)); conv => whnf)
  refine ⟨rfl, rfl, ⟨rfl, flatTs_rows _, trivial⟩, ?_⟩
  ((repeat ((conv => whnf); first | refine brT ?_ | refine brF ?_)); conv => whnf)
  refine ⟨rfl, _, dms_rows _, ?_⟩
  ((repeat ((conv => whnf); first | refine brT ?_ | refine brF ?_)); conv => whnf)
  refine ⟨rfl, _, dms_rows _, ?_⟩
  ((repeat ((conv => whnf); first | refine brT ?_ | refine brF ?_)); conv => whnf)
  refine ⟨_, eqIntSS_spec R R, ?_⟩
  rw [eqRows_refl]
  ((repeat ((conv => whnf); first | refine brT ?_ | refine brF ?_)); conv => whnf)
  rw [show notB true = false by simp [notB]]
  ((repeat ((conv => whnf); first | refine brT ?_ | refine brF ?_)); conv => whnf)
  refine ⟨true, by kernel_rfl, ?_⟩
  ((repeat ((conv => whnf); first | refine brT ?_ | refine brF ?_)); conv => whnf)
  refine ⟨_, toFamily_spec ps us p1 u1, ?_⟩
  ((repeat ((conv => whnf); first | refine brT ?_ | refine brF ?_)); conv => whnf)
  refine ⟨rfl, ?_⟩
  ((repeat ((conv => whnf); first | refine brT ?_ | refine brF ?_)); conv => whnf)
  refine ⟨rfl, ?_⟩
  ((repeat ((conv => whnf); first | refine brT ?_ | refine brF ?_)); conv => whnf)
  refine ⟨_, eqFamily_spec ps ps us us, ?_⟩
  rw [eqFam_refl]
  ((repeat ((conv => whnf); first | refine brT ?_ | refine brF ?_)); conv => whnf)
  rw [show notB true = false by simp [notB]]
  ((repeat ((conv => whnf); first | refine brT ?_ | refine brF ?_)); conv => whnf)
  refine ⟨[4, 5], _, _, _, _, markFamily_hm ps us 1 (by omega), rfl, rfl, rfl, trivial, ?_⟩
  ((repeat ((conv => whnf); first | refine brT ?_ | refine brF ?_)); conv => whnf)
  rw [show ltI ((1 + 6 * ps.length + 4 * us.length : Nat) : Int) 0 = false by rw [ltI_f]; omega]
  ((repeat ((conv => whnf); first | refine brT ?_ | refine brF ?_)); conv => whnf)
  refine ⟨rfl, _, dms_rows _, ?_⟩
  ((repeat ((conv => whnf); first | refine brT ?_ | refine brF ?_)); conv => whnf)
  refine ⟨rfl, _, dms_rows _, ?_⟩
  ((repeat ((conv => whnf); first | refine brT ?_ | refine brF ?_)); conv => whnf)
  refine ⟨_, eqIntSS_spec R R, ?_⟩
  rw [eqRows_refl]
  ((repeat ((conv => whnf); first | refine brT ?_ | refine brF ?_)); conv => whnf)
  rw [show notB true = false by simp [notB]]
  ((repeat ((conv => whnf); first | refine brT ?_ | refine brF ?_)); conv => whnf)
  refine ⟨[7], _, _, _, _, markIntSS_spec R _ rfl 1 (by omega) (by omega), rfl, rfl, rfl, trivial, ?_⟩
  ((repeat ((conv => whnf); first | refine brT ?_ | refine brF ?_)); conv => whnf)
  refine ⟨by simp [markRows_len], _, dms_rows _, ?_⟩
  ((repeat ((conv => whnf); first | refine brT ?_ | refine brF ?_)); conv => whnf)
  refine ⟨_, heldIntSS_spec R 1 (by omega) (by omega), ?_⟩
  ((repeat ((conv => whnf); first | refine brT ?_ | refine brF ?_)); conv => whnf)
  rw [show ltI (1 + (tot R : Int)) 0 = false by rw [ltI_f]; omega]
  ((repeat ((conv => whnf); first | refine brT ?_ | refine brF ?_)); conv => whnf)
  rw [eqI_refl, show notB true = false by simp [notB]]
  ((repeat ((conv => whnf); first | refine brT ?_ | refine brF ?_)); conv => whnf)
  refine ⟨[], _, _, _, _, toFamily_hm ps us p1 u1, rfl, rfl, rfl, trivial, ?_⟩
  ((repeat ((conv => whnf); first | refine brT ?_ | refine brF ?_)); conv => whnf)
  refine ⟨[], _, _, _, _, hI, rfl, ?_⟩
  ((repeat ((conv => whnf); first | refine brT ?_ | refine brF ?_)); conv => whnf)
  refine ⟨rfl, ?_⟩
  ((repeat ((conv => whnf); first | refine brT ?_ | refine brF ?_)); conv => whnf)
  refine ⟨rfl, ?_⟩
  ((repeat ((conv => whnf); first | refine brT ?_ | refine brF ?_)); conv => whnf)
  refine ⟨rfl, rfl, ⟨rfl, flatTs_rows _, trivial⟩, ?_⟩
  ((repeat ((conv => whnf); first | refine brT ?_ | refine brF ?_)); conv => whnf)
  refine ⟨rfl, _, dms_rows _, ?_⟩
  ((repeat ((conv => whnf); first | refine brT ?_ | refine brF ?_)); conv => whnf)
  refine ⟨rfl, _, dms_rows _, ?_⟩
  ((repeat ((conv => whnf); first | refine brT ?_ | refine brF ?_)); conv => whnf)
  refine ⟨_, eqIntSS_spec R R, ?_⟩
  rw [eqRows_refl]
  ((repeat ((conv => whnf); first | refine brT ?_ | refine brF ?_)); conv => whnf)
  rw [show notB true = false by simp [notB]]
  ((repeat ((conv => whnf); first | refine brT ?_ | refine brF ?_)); conv => whnf)
  refine ⟨by simp [markRows_len], _, dms_rows _, ?_⟩
  ((repeat ((conv => whnf); first | refine brT ?_ | refine brF ?_)); conv => whnf)
  refine ⟨_, heldIntSS_spec R 1 (by omega) (by omega), ?_⟩
  ((repeat ((conv => whnf); first | refine brT ?_ | refine brF ?_)); conv => whnf)
  rw [show ltI (1 + (tot R : Int)) 0 = false by rw [ltI_f]; omega]
  ((repeat ((conv => whnf); first | refine brT ?_ | refine brF ?_)); conv => whnf)
  rw [eqI_refl, show notB true = false by simp [notB]]
  ((repeat ((conv => whnf); first | refine brT ?_ | refine brF ?_)); conv => whnf)
  exact fin rfl
end Go.Proofs.Ytdhmnojnkgmmnaa


namespace Go.Proofs.Ytdhmnojnkgmmnaa
open Go.Lg Go.RowKit Go.ChangeShapes Go.WideShapes Go.Deep Go.Joins
set_option linter.unusedVariables false
set_option linter.unusedSimpArgs false
set_option maxRecDepth 100000

theorem list_of {α : Type} {lv : α → LV} {Q : α → Prop} : ∀ (xs : List LV), (∀ x ∈ xs, ∃ p, x = lv p ∧ Q p) → ∃ ps : List α, xs = ps.map lv ∧ ∀ p ∈ ps, Q p
  | [], _ => ⟨[], rfl, by simp⟩
  | x :: xs, h => by
    obtain ⟨p, rfl, hp⟩ := h x (by simp)
    obtain ⟨ps, rfl, hps⟩ := list_of xs fun y hy => h y (by simp [hy])
    exact ⟨p :: ps, rfl, List.forall_mem_cons.2 ⟨hp, hps⟩⟩

section
variable {H : Type} {enc : TypeId × Value → H} {w : World}
end
end Go.Proofs.Ytdhmnojnkgmmnaa


namespace Go.Proofs.Ytdhmnojnkgmmnaa
open Go.Lg
set_option maxRecDepth 10000
set_option linter.unusedVariables false
set_option linter.unusedSimpArgs false

/-! ### A family, out of an argument's shape -/
abbrev shPer : Sh := .st [.str, .int .i64, .int .i64, .int .i64, .int .i64, .int .i64]
abbrev shUni : Sh := .st [.int .i64, .int .i64, .int .i64, .int .i64]
abbrev shFam : Sh := .st [.sl (.st [.str, .int .i64, .int .i64, .int .i64, .int .i64, .int .i64]), .sl (.st [.int .i64, .int .i64, .int .i64, .int .i64])]
theorem per_of_sh {x : LV} (h : hasSh shPer x) : ∃ p : Per, x = p.lv ∧ p.name.size ≤ maxLen := by
  simp only [hasSh] at h
  obtain ⟨xs, rfl, h⟩ := h
  match xs, h with
  | [a, b, c, d, e, f], h =>
    simp only [hasShs, hasSh] at h
    obtain ⟨⟨s, rfl, hs⟩, ⟨n1, rfl⟩, ⟨n2, rfl⟩, ⟨n3, rfl⟩, ⟨n4, rfl⟩, ⟨n5, rfl⟩, _⟩ := h
    exact ⟨⟨s, n1, n2, n3, n4, n5⟩, rfl, hs⟩
  | [], h => simp [hasShs] at h
  | [_], h => simp [hasShs] at h
  | [_, _], h => simp [hasShs] at h
  | [_, _, _], h => simp [hasShs] at h
  | [_, _, _, _], h => simp [hasShs] at h
  | [_, _, _, _, _], h => simp [hasShs] at h
  | _ :: _ :: _ :: _ :: _ :: _ :: _ :: _, h => simp [hasShs] at h
theorem uni_of_sh {x : LV} (h : hasSh shUni x) : ∃ u : Uni, x = u.lv ∧ True := by
  simp only [hasSh] at h
  obtain ⟨xs, rfl, h⟩ := h
  match xs, h with
  | [a, b, c, d], h =>
    simp only [hasShs, hasSh] at h
    obtain ⟨⟨n1, rfl⟩, ⟨n2, rfl⟩, ⟨n3, rfl⟩, ⟨n4, rfl⟩, _⟩ := h
    exact ⟨⟨n1, n2, n3, n4⟩, rfl, trivial⟩
  | [], h => simp [hasShs] at h
  | [_], h => simp [hasShs] at h
  | [_, _], h => simp [hasShs] at h
  | [_, _, _], h => simp [hasShs] at h
  | _ :: _ :: _ :: _ :: _ :: _, h => simp [hasShs] at h
theorem fam_of_sh {x : LV} (h : hasSh shFam x) : ∃ (ps : List Per) (us : List Uni), x = famLV ps us ∧ FamOK ps us := by
  simp only [hasSh] at h
  obtain ⟨xs, rfl, h⟩ := h
  match xs, h with
  | [a, b], h =>
    simp only [hasShs, hasSh] at h
    obtain ⟨⟨ys, rfl, hl, hy⟩, ⟨zs, rfl, hm, hz⟩, _⟩ := h
    obtain ⟨ps, rfl, hps⟩ := list_of (lv := Per.lv) (Q := fun p => p.name.size ≤ maxLen) ys fun y hy' => per_of_sh (by simp only [hasSh]; exact hy y hy')
    obtain ⟨us, rfl, _⟩ := list_of (lv := Uni.lv) (Q := fun _ => True) zs fun y hy' => uni_of_sh (by simp only [hasSh]; exact hz y hy')
    exact ⟨ps, us, rfl, ⟨by simpa using hl, by simpa using hm, hps⟩⟩
  | [], h => simp [hasShs] at h
  | [_], h => simp [hasShs] at h
  | _ :: _ :: _ :: _, h => simp [hasShs] at h
end Go.Proofs.Ytdhmnojnkgmmnaa

