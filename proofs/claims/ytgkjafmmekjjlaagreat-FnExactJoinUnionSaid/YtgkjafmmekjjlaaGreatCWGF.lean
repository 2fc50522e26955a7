/- Contracts of functions of the program and of its model, told over readings. -/
import Derived.Test.YtgkjafmmekjjlaaGreatCWGE
import Derived.Test.YtgkjafmmekjjlaaGreatCWGC
import Derived.Test.YtgkjafmmekjjlaaGreatCWGD
set_option maxHeartbeats 6400000
set_option maxRecDepth 10000
set_option linter.unusedVariables false
set_option linter.unusedSimpArgs false
set_option linter.unusedSectionVars false
namespace Go.Proofs.YtgkjafmmekjjlaaGreat
open Go.Lg Go.Pm
theorem lkR_small {L : List (Int × Int)} (h : ∀ p ∈ L, smallP p) : smallP (lkR L) := by
  unfold lkR
  cases e : eqI (L.length : Int) 0 with
  | true => exact ⟨Int.le_refl _, show (0 : Int) ≤ 10 by omega, Int.le_refl _, show (0 : Int) ≤ 10 by omega⟩
  | false =>
    have h0 : 0 < L.length := by rw [eqI_f] at e; omega
    have := bst_small h (L.length - 1) (by omega)
    rwa [Nat.sub_add_cancel h0] at this
def civR (L : List (Int × Int)) : Int := (lkR L).1 + (lkR L).2
theorem civil_spec (ps : List Per) (us : List Uni) (a b : Int) : FSpec env.P 114 [famLV ps us, .int .i64 a, .int .i64 b] (.tup [.int .i64 (civR (linksL ps us a b)), .bool (lkB (linksL ps us a b))]) := by
  refine FSpec_of_code env_ok (fn := Tryz.f114) Tryz.func114 rfl Tryz.call114 _ _ ?_
  have hw := linkOf_spec ps us a b
  obtain ⟨c1, c2, c3, c4⟩ := lkR_small (links_small ps us a b)
  have w1 : IntKind.i64.wrap ((lkR (linksL ps us a b)).1 + (lkR (linksL ps us a b)).2) = civR (linksL ps us a b) := wrap64 (by omega) (by omega)
  generalize linksL ps us a b = L at hw w1 ⊢
  ((repeat ((conv => whnf); first | refine brT ?_ | refine brF ?_)); conv => whnf)
  refine ⟨_, hw, ?_⟩
  ((repeat ((conv => whnf); first | refine brT ?_ | refine brF ?_)); conv => whnf)
  rw [w1]
  (repeat (first | exact List.nodup_nil | refine ⟨rfl, ?_⟩))
def lkMx (p : Int × Int) : Int := maxI p.1 p.2
theorem mx_small {p : Int × Int} (h : smallP p) : 0 ≤ lkMx p ∧ lkMx p ≤ 10 := by
  obtain ⟨h1, h2, h3, h4⟩ := h
  exact ⟨le_maxI h1, maxI_le h2 h4⟩
def cnS (c m : Int) : Int := match ltI c 0 || ltI m c with | true => m | false => c
def cnL (L : List (Int × Int)) : Nat → Int
  | 0 => -1
  | k + 1 => match L[k]? with | some p => cnS (cnL L k) (lkMx p) | none => cnL L k
theorem cn_succ {L : List (Int × Int)} {k : Nat} (h : k < L.length) : cnL L (k + 1) = cnS (cnL L k) (lkMx L[k]) := by simp [cnL, h]
theorem cn_pos {L : List (Int × Int)} (hL : ∀ p ∈ L, smallP p) : ∀ k, k + 1 ≤ L.length → 0 ≤ cnL L (k + 1)
  | 0, h => by
    rw [cn_succ (by omega)]
    have := mx_small (hL _ (List.getElem_mem (show 0 < L.length by omega)))
    unfold cnS; split
    · exact this.1
    · rename_i hh; simp [cnL, ltI] at hh
  | k + 1, h => by
    rw [cn_succ (by omega)]
    have := mx_small (hL _ (List.getElem_mem (show k + 1 < L.length by omega)))
    unfold cnS; split
    · exact this.1
    · exact cn_pos hL k (by omega)
theorem cn_one {L : List (Int × Int)} (h : 0 < L.length) : cnL L 1 = lkMx L[0] := by
  rw [cn_succ h]; unfold cnS; rw [show ltI (cnL L 0) 0 = true by rw [ltI_t]; show (-1 : Int) < 0; omega]; rfl
theorem canon1_spec (p : Int × Int) : FSpec env.P 171 [lkLV p] (.int .i64 (lkMx p)) := by
  refine FSpec_of_code env_ok (fn := Tryz.f171) Tryz.func171 rfl Tryz.call171 _ _ ?_
  ((repeat ((conv => whnf); first | refine brT ?_ | refine brF ?_)); conv => whnf)
  exact ⟨rfl, rfl, List.nodup_nil⟩
theorem mapMx (L : List (Int × Int)) (hb : L.length ≤ 40) : FSpec env.P 170 [.sl (L.map lkLV), .clos 171 []] (rowOw (L.map lkMx)) := by
  refine FSpec_of_code env_ok (fn := Tryz.f170) Tryz.func170 rfl Tryz.call170 _ _ ?_
  have hL : (L.map lkLV).length = L.length := List.length_map ..
  have hp' : L.length ≤ Go.maxLen := by unfold Go.maxLen; omega
  ((repeat ((conv => whnf); first | refine brT ?_ | refine brF ?_)); conv => whnf)
  intro hp
  ((repeat ((conv => whnf); first | refine brT ?_ | refine brF ?_)); conv => whnf)
  rw [hL]
  refine ⟨L.length, rfl, rfl, by show 8 * L.length ≤ _; omega, hp', rfl, by decide, ?_⟩
  ((repeat ((conv => whnf); first | refine brT ?_ | refine brF ?_)); conv => whnf)
  intro _
  ((repeat ((conv => whnf); first | refine brT ?_ | refine brF ?_)); conv => whnf)
  rw [hL]
  refine loop_ruleR (α := Nat) [.old 0] (fun k => [(13, .int .i64 (k : Int)), (7, .undef)]) (fun k => [.arr 3 1 (fillLV (fun p : Int × Int => intLV (lkMx p)) (intLV 0) L k)]) (fun k => L.length - k) (fun k => k ≤ L.length) 0 (Nat.zero_le _) ?_ ?_
  · refine ⟨?_, ⟨rfl, by simp [fillLV, intLV]; rfl, trivial⟩, rfl⟩
    ((repeat ((conv => whnf); refine ⟨rfl, rfl, ?_⟩)); trivial)
  intro k hk
  generalize hK : kk _ = KK
  ((repeat ((conv => whnf); first | refine brT ?_ | refine brF ?_)); conv => whnf)
  (refine ⟨fun h1 => ?_, fun h1 => ?_⟩ <;> rw [h1])
  · have hlt : k < L.length := by rw [ltI_t] at h1; omega
    have e := step_i hlt hp'
    have hget : (L.map lkLV)[k]? = some (lkLV L[k]) := by rw [List.getElem?_map, List.getElem?_eq_getElem hlt]; rfl
    have hfs := fill_set (lv := fun p : Int × Int => intLV (lkMx p)) (z := intLV 0) hlt
    have hfg := fill_get (lv := fun p : Int × Int => intLV (lkMx p)) (z := intLV 0) hlt
    generalize L[k] = p at hget hfs
    ((repeat ((conv => whnf); first | refine brT ?_ | refine brF ?_)); conv => whnf)
    refine ⟨k, lkLV p, rfl, hget, rfl, ?_⟩
    ((repeat ((conv => whnf); first | refine brT ?_ | refine brF ?_)); conv => whnf)
    refine ⟨_, canon1_spec p, ?_⟩
    ((repeat ((conv => whnf); first | refine brT ?_ | refine brF ?_)); conv => whnf)
    refine ⟨(fill_len hk).symm, rfl, k, rfl, by rw [fill_len hk]; exact hlt, ?_⟩
    ((repeat ((conv => whnf); first | refine brT ?_ | refine brF ?_)); conv => whnf)
    refine ⟨(fill_len hk).symm, k, [], intLV 0, rfl, by simp [getP, hfg], rfl, rfl, rfl, fillLV (fun p : Int × Int => intLV (lkMx p)) (intLV 0) L (k + 1), by rw [hfg]; exact hfs, ?_⟩
    ((repeat ((conv => whnf); first | refine brT ?_ | refine brF ?_)); conv => whnf)
    subst hK
    refine round_endR [.old 0] (k + 1) hlt (by omega) ⟨?_, ⟨rfl, rfl, trivial⟩, rfl⟩
    ((repeat ((conv => whnf); first | refine ⟨rfl, e, ?_⟩ | refine ⟨rfl, rfl, ?_⟩)); trivial)
  · have h4 : k = L.length := by rw [ltI_f] at h1; omega
    subst h4
    subst hK
    ((repeat ((conv => whnf); first | refine brT ?_ | refine brF ?_)); conv => whnf)
    exact ⟨(fill_len (Nat.le_refl _)).symm, rfl, rfl, by rw [fill_all, List.map_map]; rfl, by simp⟩
theorem minInt_spec (L : List (Int × Int)) (hs : ∀ p ∈ L, smallP p) (h0 : 0 < L.length) (hm : L.length ≤ 40) : FSpec env.P 169 [rowSl (L.map lkMx)] (.int .i64 (cnL L L.length)) := by
  refine FSpec_of_code env_ok (fn := Tryz.f169) Tryz.func169 rfl Tryz.call169 _ _ ?_
  have hLm : ((L.map lkMx).map intLV).length = L.length := by simp
  have hm40 : L.length ≤ Go.maxLen := by unfold Go.maxLen; omega
  have hget : ∀ (k : Nat) (h : k < L.length), ((L.map lkMx).map intLV)[k]? = some (intLV (lkMx L[k])) := fun k h => by rw [List.getElem?_map, List.getElem?_map, List.getElem?_eq_getElem h]; rfl
  ((repeat ((conv => whnf); first | refine brT ?_ | refine brF ?_)); conv => whnf)
  intro _
  ((repeat ((conv => whnf); first | refine brT ?_ | refine brF ?_)); conv => whnf)
  rw [hLm, show ltI (L.length : Int) 1 = false by rw [ltI_f]; omega]
  ((repeat ((conv => whnf); first | refine brT ?_ | refine brF ?_)); conv => whnf)
  refine ⟨0, intLV (lkMx L[0]), rfl, hget 0 h0, rfl, ?_⟩
  ((repeat ((conv => whnf); first | refine brT ?_ | refine brF ?_)); conv => whnf)
  refine loop_rule (α := Nat) (fun k => [(3, .int .i64 (cnL L k)), (4, .int .i64 (k : Int))]) (fun k => []) (fun k => L.length - k) (fun k => 1 ≤ k ∧ k ≤ L.length) 1 ⟨Nat.le_refl _, h0⟩ ?_ ?_
  · refine ⟨?_, trivial, rfl, rfl⟩
    have e0 : LV.int .i64 (lkMx L[0]) = LV.int .i64 (cnL L 1) := by rw [cn_one h0]
    ((repeat ((conv => whnf); first | refine ⟨e0, ?_⟩ | refine ⟨rfl, ?_⟩)); trivial)
  rintro k ⟨hk1, hk⟩
  have hc := cn_pos hs (k - 1) (by omega)
  rw [Nat.sub_add_cancel hk1] at hc
  ((repeat ((conv => whnf); first | refine brT ?_ | refine brF ?_)); conv => whnf)
  intro _
  ((repeat ((conv => whnf); first | refine brT ?_ | refine brF ?_)); conv => whnf)
  rw [hLm]
  (refine ⟨fun g1 => ?_, fun g1 => ?_⟩ <;> rw [g1])
  · have hlt : k < L.length := by rw [ltI_t] at g1; omega
    have e := step_i hlt hm40
    have hg := hget k hlt
    have hn := cn_succ hlt
    unfold cnS at hn
    rw [show ltI (cnL L k) 0 = false by rw [ltI_f]; exact hc, Bool.false_or] at hn
    generalize lkMx L[k] = m at hg hn
    have hmn : LV.int .i64 (minI (cnL L k) m) = LV.int .i64 (cnL L (k + 1)) := by
      rw [hn]; congr 1; unfold minI
      cases g : ltI m (cnL L k) with
      | true => rw [ltI_t] at g; rw [if_pos g]
      | false => rw [ltI_f] at g; rw [if_neg (by omega)]
    ((repeat ((conv => whnf); first | refine brT ?_ | refine brF ?_)); conv => whnf)
    refine ⟨k, intLV m, rfl, hg, rfl, ?_⟩
    ((repeat ((conv => whnf); first | refine brT ?_ | refine brF ?_)); conv => whnf)
    refine round_end (k + 1) ⟨by omega, hlt⟩ (by omega) ⟨?_, trivial, rfl, rfl⟩
    repeat ((conv => whnf); first | refine ⟨e, ?_⟩ | refine ⟨hmn, ?_⟩ | refine ⟨rfl, ?_⟩)
    trivial
  · have h4 : k = L.length := by rw [ltI_f] at g1; omega
    subst h4
    ((repeat ((conv => whnf); first | refine brT ?_ | refine brF ?_)); conv => whnf)
    exact ⟨rfl, rfl, List.nodup_nil⟩
def cnR (L : List (Int × Int)) : Int := match eqI (L.length : Int) 0 with | true => 0 | false => cnL L L.length
theorem leastCanon_f (L : List (Int × Int)) (hs : ∀ p ∈ L, smallP p) (hm : L.length ≤ 40) : FSpec env.P 156 [.sl (L.map lkLV)] (.tup [.int .i64 (cnR L), .bool (lkB L)]) := by
  refine FSpec_of_code env_ok (fn := Tryz.f156) Tryz.func156 rfl Tryz.call156 _ _ ?_
  have hL : (L.map lkLV).length = L.length := List.length_map ..
  unfold cnR lkB
  ((repeat ((conv => whnf); first | refine brT ?_ | refine brF ?_)); conv => whnf)
  intro _
  ((repeat ((conv => whnf); first | refine brT ?_ | refine brF ?_)); conv => whnf)
  rw [hL]
  cases h : eqI (L.length : Int) 0
  · have h0 : 0 < L.length := by rw [eqI_f] at h; omega
    have hi := minInt_spec L hs h0 hm
    ((repeat ((conv => whnf); first | refine brT ?_ | refine brF ?_)); conv => whnf)
    refine ⟨_, mapMx L hm, ?_⟩
    rw [show flatT (rowOw (L.map lkMx)) = true from flat_ints _]
    ((repeat ((conv => whnf); first | refine brT ?_ | refine brF ?_)); conv => whnf)
    refine ⟨_, hi, ?_⟩
    ((repeat ((conv => whnf); first | refine brT ?_ | refine brF ?_)); conv => whnf)
    (repeat (first | exact List.nodup_nil | refine ⟨rfl, ?_⟩ | refine ⟨by simp [notB], ?_⟩))
  · ((repeat ((conv => whnf); first | refine brT ?_ | refine brF ?_)); conv => whnf)
    (repeat (first | exact List.nodup_nil | refine ⟨rfl, ?_⟩ | refine ⟨by simp [notB], ?_⟩))
theorem canon_spec (ps : List Per) (us : List Uni) (a b : Int) : FSpec env.P 81 [famLV ps us, .int .i64 a, .int .i64 b] (.tup [.int .i64 (cnR (linksL ps us a b)), .bool (lkB (linksL ps us a b))]) := by
  refine FSpec_of_code env_ok (fn := Tryz.f81) Tryz.func81 rfl Tryz.call81 _ _ ?_
  have hs := links_small ps us a b
  have hcl := com_lt (ps := ps) (us := us) (a := a) (b := b)
  have hw := nats_f (commons_spec ps us a b)
  have hm := links_len ps us a b
  have hF : 0 < (comL ps us a b).length → (∃ n : Nat, a = n ∧ n < ps.length) ∧ (∃ m : Nat, b = m ∧ m < ps.length) ∧ ps.length ≤ 40 ∧ parsIn ps ∧ shallow (depths ps) = true := fun h0 => by
    unfold comL at h0
    split at h0
    · rename_i h
      obtain ⟨h1, h2⟩ := Bool.and_eq_true_iff.1 h
      obtain ⟨a0, al, hl, hpi⟩ := hasP_in h1
      obtain ⟨b0, bl, _, _⟩ := hasP_in h2
      exact ⟨⟨a.toNat, by omega, al⟩, ⟨b.toNat, by omega, bl⟩, hl, hpi, fam_sh (hasP_lt h1).2.2⟩
    · simp at h0
  unfold linksL at hs hm ⊢
  generalize comL ps us a b = C at hcl hw hF hs hm ⊢
  rw [List.length_map] at hm
  have hC : (C.map natLV).length = C.length := List.length_map ..
  have hm40 : C.length ≤ Go.maxLen := by unfold Go.maxLen; omega
  have hLg : ∀ (k : Nat) (h : k < C.length), (C.map (lkOf ps a.toNat b.toNat))[k]? = some (lkOf ps a.toNat b.toNat C[k]) := fun k h => by rw [List.getElem?_map, List.getElem?_eq_getElem h]; rfl
  have hLl : (C.map (lkOf ps a.toNat b.toNat)).length = C.length := List.length_map ..
  generalize C.map (lkOf ps a.toNat b.toNat) = L at hs hLg hLl ⊢
  unfold cnR lkB
  ((repeat ((conv => whnf); first | refine brT ?_ | refine brF ?_)); conv => whnf)
  refine ⟨_, hw, ?_⟩
  ((repeat ((conv => whnf); first | refine brT ?_ | refine brF ?_)); conv => whnf)
  intro _
  ((repeat ((conv => whnf); first | refine brT ?_ | refine brF ?_)); conv => whnf)
  rw [hC]
  refine loop_rule (α := Nat) (fun k => [(8, .int .i64 (cnL L k)), (17, .int .i64 (k : Int))]) (fun k => [.box (famLV ps us)]) (fun k => C.length - k) (fun k => k ≤ C.length) 0 (Nat.zero_le _) ?_ ?_
  · refine ⟨?_, ⟨rfl, trivial⟩, rfl, rfl⟩
    ((repeat ((conv => whnf); refine ⟨rfl, ?_⟩)); trivial)
  intro k hk
  generalize hK : kk _ = KK
  ((repeat ((conv => whnf); first | refine brT ?_ | refine brF ?_)); conv => whnf)
  (refine ⟨fun g1 => ?_, fun g1 => ?_⟩ <;> rw [g1])
  · have hlt : k < C.length := by rw [ltI_t] at g1; omega
    have e := step_i hlt hm40
    obtain ⟨⟨n, rfl, al⟩, ⟨m, rfl, bl⟩, hl, hpi, hsh⟩ := hF (by omega)
    have hq := hcl _ (List.getElem_mem hlt)
    have hge := natl_get hlt
    have hn0 : cnL L (k + 1) = cnS (cnL L k) (lkMx (lkOf ps (n : Int).toNat (m : Int).toNat C[k])) := by rw [cnL, hLg k hlt]
    generalize C[k] = q at hq hge hn0
    rw [Int.toNat_natCast, Int.toNat_natCast] at hn0
    ((repeat ((conv => whnf); first | refine brT ?_ | refine brF ?_)); conv => whnf)
    refine ⟨k, .int .i64 (q : Int), rfl, hge, rfl, ?_⟩
    ((repeat ((conv => whnf); first | refine brT ?_ | refine brF ?_)); conv => whnf)
    refine ⟨true, by kernel_rfl, ?_⟩
    ((repeat ((conv => whnf); first | refine brT ?_ | refine brF ?_)); conv => whnf)
    refine ⟨_, up_f ps us hl hpi hsh n al, ?_⟩
    ((repeat ((conv => whnf); first | refine brT ?_ | refine brF ?_)); conv => whnf)
    refine ⟨q, intLV (upd ps n q), rfl, upRow_get hq, rfl, ?_⟩
    ((repeat ((conv => whnf); first | refine brT ?_ | refine brF ?_)); conv => whnf)
    refine ⟨_, up_f ps us hl hpi hsh m bl, ?_⟩
    ((repeat ((conv => whnf); first | refine brT ?_ | refine brF ?_)); conv => whnf)
    refine ⟨q, intLV (upd ps m q), rfl, upRow_get hq, rfl, ?_⟩
    ((repeat ((conv => whnf); first | refine brT ?_ | refine brF ?_)); conv => whnf)
    have ep : lkMx (lkOf ps n m q) = maxI (upd ps n q) (upd ps m q) := rfl
    rw [ep] at hn0
    generalize maxI (upd ps n q) (upd ps m q) = x at hn0 ⊢
    (refine ⟨fun g2 => ?_, fun g2 => ?_⟩ <;> rw [g2])
    · have hn : LV.int .i64 x = LV.int .i64 (cnL L (k + 1)) := by rw [hn0]; unfold cnS; rw [g2]; rfl
      ((repeat ((conv => whnf); first | refine brT ?_ | refine brF ?_)); conv => whnf)
      subst hK
      refine round_end (k + 1) hlt (by omega) ⟨?_, ⟨rfl, trivial⟩, rfl, rfl⟩
      repeat ((conv => whnf); first | refine ⟨e, ?_⟩ | refine ⟨hn, ?_⟩ | refine ⟨rfl, ?_⟩)
      trivial
    · ((repeat ((conv => whnf); first | refine brT ?_ | refine brF ?_)); conv => whnf)
      (refine ⟨fun g3 => ?_, fun g3 => ?_⟩ <;> rw [g3])
      · have hn : LV.int .i64 x = LV.int .i64 (cnL L (k + 1)) := by rw [hn0]; unfold cnS; rw [g2, g3]; rfl
        ((repeat ((conv => whnf); first | refine brT ?_ | refine brF ?_)); conv => whnf)
        subst hK
        refine round_end (k + 1) hlt (by omega) ⟨?_, ⟨rfl, trivial⟩, rfl, rfl⟩
        repeat ((conv => whnf); first | refine ⟨e, ?_⟩ | refine ⟨hn, ?_⟩ | refine ⟨rfl, ?_⟩)
        trivial
      · have hn : LV.int .i64 (cnL L k) = LV.int .i64 (cnL L (k + 1)) := by rw [hn0]; unfold cnS; rw [g2, g3]; rfl
        ((repeat ((conv => whnf); first | refine brT ?_ | refine brF ?_)); conv => whnf)
        subst hK
        refine round_end (k + 1) hlt (by omega) ⟨?_, ⟨rfl, trivial⟩, rfl, rfl⟩
        repeat ((conv => whnf); first | refine ⟨e, ?_⟩ | refine ⟨hn, ?_⟩ | refine ⟨rfl, ?_⟩)
        trivial
  · have h4 : k = C.length := by rw [ltI_f] at g1; omega
    subst h4
    subst hK
    rw [← hLl]
    cases h : eqI (L.length : Int) 0
    · have h0 : 0 < L.length := by rw [eqI_f] at h; omega
      have hb := cn_pos hs (L.length - 1) (by omega)
      rw [Nat.sub_add_cancel h0] at hb
      ((repeat ((conv => whnf); first | refine brT ?_ | refine brF ?_)); conv => whnf)
      rw [show ltI (cnL L L.length) 0 = false by rw [ltI_f]; exact hb]
      ((repeat ((conv => whnf); first | refine brT ?_ | refine brF ?_)); conv => whnf)
      (repeat (first | exact List.nodup_nil | refine ⟨rfl, ?_⟩ | refine ⟨by simp [notB], ?_⟩))
    · have h0 : L.length = 0 := by rw [eqI_t] at h; omega
      ((repeat ((conv => whnf); first | refine brT ?_ | refine brF ?_)); conv => whnf)
      rw [show ltI (cnL L L.length) 0 = true by rw [h0, ltI_t]; show (-1 : Int) < 0; omega]
      ((repeat ((conv => whnf); first | refine brT ?_ | refine brF ?_)); conv => whnf)
      (repeat (first | exact List.nodup_nil | refine ⟨rfl, ?_⟩ | refine ⟨by simp [notB], ?_⟩))
end Go.Proofs.YtgkjafmmekjjlaaGreat
namespace Go.Proofs.YtgkjafmmekjjlaaGreat
open Go.Lg
theorem endOf_spec (ps : List Per) (us : List Uni) (u : Uni) (h : UniIn ps u) : FSpec env.P 167 [famLV ps us, u.lv] (endLV (endO ps u)) := by
  refine FSpec_of_code env_ok (fn := Tryz.f167) Tryz.func167 rfl Tryz.call167 _ _ ?_
  have he : endO ps u = match eqI u.till (-1) with | false => some u.till | true => endOf2 (ps[u.husband.toNat]'h.ml).died (ps[u.wife.toNat]'h.wl).died := by
    unfold endO
    (rw [List.getElem?_eq_getElem h.ml, List.getElem?_eq_getElem h.wl]) <;> rfl
  obtain ⟨m0, ml, w0, wl⟩ := h
  ((repeat ((conv => whnf); first | refine brT ?_ | refine brF ?_)); conv => whnf)
  (refine ⟨fun h1 => ?_, fun h1 => ?_⟩ <;> rw [h1])
  · rw [notB_t] at h1
    rw [h1] at he
    rw [he]
    ((repeat ((conv => whnf); first | refine brT ?_ | refine brF ?_)); conv => whnf)
    refine ⟨rfl, rfl, ?_⟩
    ((repeat ((conv => whnf); first | refine brT ?_ | refine brF ?_)); conv => whnf)
    exact ⟨rfl, List.nodup_nil⟩
  · rw [notB_f] at h1
    rw [h1] at he
    rw [he]
    ((repeat ((conv => whnf); first | refine brT ?_ | refine brF ?_)); conv => whnf)
    refine ⟨true, by kernel_rfl, ?_⟩
    ((repeat ((conv => whnf); first | refine brT ?_ | refine brF ?_)); conv => whnf)
    refine ⟨u.husband.toNat, ps[u.husband.toNat].lv, by omega, by simp [ml], rfl, ?_⟩
    ((repeat ((conv => whnf); first | refine brT ?_ | refine brF ?_)); conv => whnf)
    refine ⟨u.wife.toNat, ps[u.wife.toNat].lv, by omega, by simp [wl], rfl, ?_⟩
    generalize ps[u.husband.toNat] = x
    generalize ps[u.wife.toNat] = y
    ((repeat ((conv => whnf); first | refine brT ?_ | refine brF ?_)); conv => whnf)
    (refine ⟨fun g1 => ?_, fun g1 => ?_⟩ <;> rw [g1])
    · ((repeat ((conv => whnf); first | refine brT ?_ | refine brF ?_)); conv => whnf)
      (refine ⟨fun g2 => ?_, fun g2 => ?_⟩ <;> rw [g2])
      · have e : endOf2 x.died y.died = none := by simp [endOf2, g1, g2]
        rw [e]
        ((repeat ((conv => whnf); first | refine brT ?_ | refine brF ?_)); conv => whnf)
        refine ⟨rfl, rfl, ?_⟩
        ((repeat ((conv => whnf); first | refine brT ?_ | refine brF ?_)); conv => whnf)
        exact ⟨rfl, List.nodup_nil⟩
      · have e : endOf2 x.died y.died = some y.died := by simp [endOf2, g1, g2]
        rw [e]
        ((repeat ((conv => whnf); first | refine brT ?_ | refine brF ?_)); conv => whnf)
        rw [g1]
        ((repeat ((conv => whnf); first | refine brT ?_ | refine brF ?_)); conv => whnf)
        refine ⟨rfl, rfl, ?_⟩
        ((repeat ((conv => whnf); first | refine brT ?_ | refine brF ?_)); conv => whnf)
        exact ⟨rfl, List.nodup_nil⟩
    · ((repeat ((conv => whnf); first | refine brT ?_ | refine brF ?_)); conv => whnf)
      rw [g1]
      ((repeat ((conv => whnf); first | refine brT ?_ | refine brF ?_)); conv => whnf)
      (refine ⟨fun g2 => ?_, fun g2 => ?_⟩ <;> rw [g2])
      · have e : endOf2 x.died y.died = some x.died := by simp [endOf2, g1, g2]
        rw [e]
        ((repeat ((conv => whnf); first | refine brT ?_ | refine brF ?_)); conv => whnf)
        refine ⟨rfl, rfl, ?_⟩
        ((repeat ((conv => whnf); first | refine brT ?_ | refine brF ?_)); conv => whnf)
        exact ⟨rfl, List.nodup_nil⟩
      · have e : endOf2 x.died y.died = some (minI x.died y.died) := by simp [endOf2, g1, g2]
        rw [e]
        ((repeat ((conv => whnf); first | refine brT ?_ | refine brF ?_)); conv => whnf)
        refine ⟨rfl, rfl, ?_⟩
        ((repeat ((conv => whnf); first | refine brT ?_ | refine brF ?_)); conv => whnf)
        exact ⟨rfl, List.nodup_nil⟩
theorem l1End_spec (ps : List Per) (us : List Uni) (u : Uni) (h : UniIn ps u) (hy : UniYears ps u h) : FSpec env.P 112 [famLV ps us, u.lv] (endLV (endO ps u)) := by
  refine FSpec_of_code env_ok (fn := Tryz.f112) Tryz.func112 rfl Tryz.call112 _ _ ?_
  have he : endO ps u = match eqI u.till (-1) with | false => some u.till | true => endOf2 (ps[u.husband.toNat]'h.ml).died (ps[u.wife.toNat]'h.wl).died := by
    unfold endO
    (rw [List.getElem?_eq_getElem h.ml, List.getElem?_eq_getElem h.wl]) <;> rfl
  obtain ⟨ht, hm, hw⟩ := hy
  obtain ⟨m0, ml, w0, wl⟩ := h
  rw [endOf2_years hm hw] at he
  ((repeat ((conv => whnf); first | refine brT ?_ | refine brF ?_)); conv => whnf)
  (refine ⟨fun h1 => ?_, fun h1 => ?_⟩ <;> rw [h1])
  · have : eqI u.till (-1) = false := by rw [eqI_f]; rw [leI_t] at h1; omega
    rw [this] at he
    rw [he]
    ((repeat ((conv => whnf); first | refine brT ?_ | refine brF ?_)); conv => whnf)
    refine ⟨rfl, rfl, ?_⟩
    ((repeat ((conv => whnf); first | refine brT ?_ | refine brF ?_)); conv => whnf)
    exact ⟨rfl, List.nodup_nil⟩
  · have : eqI u.till (-1) = true := by rw [eqI_t]; rw [leI_f] at h1; omega
    rw [this] at he
    rw [he]
    ((repeat ((conv => whnf); first | refine brT ?_ | refine brF ?_)); conv => whnf)
    refine ⟨u.husband.toNat, ps[u.husband.toNat].lv, by omega, by simp [ml], rfl, ?_⟩
    ((repeat ((conv => whnf); first | refine brT ?_ | refine brF ?_)); conv => whnf)
    refine ⟨u.wife.toNat, ps[u.wife.toNat].lv, by omega, by simp [wl], rfl, ?_⟩
    generalize ps[u.husband.toNat] = x at hm ⊢
    generalize ps[u.wife.toNat] = y at hw ⊢
    ((repeat' (((repeat ((conv => whnf); first | refine brT ?_ | refine brF ?_)); conv => whnf); (refine And.intro ?_ ?_ <;> (intro h; rw [h]; revert h; intro _)))); all_goals ((repeat ((conv => whnf); first | refine brT ?_ | refine brF ?_)); conv => whnf))
    all_goals
      simp only [ltI_t, ltI_f, leI_t, leI_f] at *
      by_cases c1 : x.died < 0 ∧ y.died < 0
      · first
          | (exfalso; omega)
          | (rw [if_pos c1]
             ((repeat ((conv => whnf); first | refine brT ?_ | refine brF ?_)); conv => whnf)
             refine ⟨rfl, rfl, ?_⟩
             ((repeat ((conv => whnf); first | refine brT ?_ | refine brF ?_)); conv => whnf)
             exact ⟨rfl, List.nodup_nil⟩)
      · rw [if_neg c1]
        by_cases c2 : x.died < 0 ∨ (0 ≤ y.died ∧ y.died < x.died)
        · first
            | (exfalso; omega)
            | (rw [if_pos c2]
               ((repeat ((conv => whnf); first | refine brT ?_ | refine brF ?_)); conv => whnf)
               refine ⟨rfl, rfl, ?_⟩
               ((repeat ((conv => whnf); first | refine brT ?_ | refine brF ?_)); conv => whnf)
               exact ⟨rfl, List.nodup_nil⟩)
        · first
            | (exfalso; omega)
            | (rw [if_neg c2]
               ((repeat ((conv => whnf); first | refine brT ?_ | refine brF ?_)); conv => whnf)
               refine ⟨rfl, rfl, ?_⟩
               ((repeat ((conv => whnf); first | refine brT ?_ | refine brF ?_)); conv => whnf)
               exact ⟨rfl, List.nodup_nil⟩)
end Go.Proofs.YtgkjafmmekjjlaaGreat
namespace Go.Proofs.YtgkjafmmekjjlaaGreat
open Go.Lg
def otherL (keep : Uni → Bool) (p : Int) (u : Uni) : List Int := match keep u with
  | false => []
  | true => match eqI p u.husband with
    | true => [u.wife]
    | false => match eqI p u.wife with
      | true => [u.husband]
      | false => []
def othersTo (keep : Uni → Bool) (p : Int) (us : List Uni) (k : Nat) : List Int := (us.take k).flatMap (otherL keep p)
theorem othersTo_succ (keep : Uni → Bool) (p : Int) (us : List Uni) {k : Nat} (h : k < us.length) : othersTo keep p us (k + 1) = othersTo keep p us k ++ otherL keep p us[k] := by
  unfold othersTo
  rw [List.take_succ_eq_append_getElem h, List.flatMap_append]
  simp
theorem otherL_len (keep : Uni → Bool) (p : Int) (u : Uni) : (otherL keep p u).length ≤ 1 := by
  unfold otherL
  repeat' split
  all_goals simp
theorem othersTo_len (keep : Uni → Bool) (p : Int) (us : List Uni) (k : Nat) : (othersTo keep p us k).length ≤ us.length := by
  unfold othersTo
  have : ∀ l : List Uni, (l.flatMap (otherL keep p)).length ≤ l.length := by
    intro l
    induction l with
    | nil => simp
    | cons x xs ih => simp only [List.flatMap_cons, List.length_append, List.length_cons]; have := otherL_len keep p x; omega
  exact Nat.le_trans (this _) (by simp; omega)
end Go.Proofs.YtgkjafmmekjjlaaGreat
namespace Go.Proofs.YtgkjafmmekjjlaaGreat
open Go.Lg
theorem eqI_comm (a b : Int) : eqI a b = eqI b a := by
  cases h : eqI b a
  · rw [eqI_f] at h ⊢; omega
  · rw [eqI_t] at h ⊢; omega
def otherV (p : Int) (u : Uni) : Int := match eqI u.husband p with | true => u.wife | false => u.husband
def otherB (p : Int) (u : Uni) : Bool := match eqI u.husband p with | true => true | false => eqI u.wife p
theorem l1Other_spec (u : Uni) (p : Int) : FSpec env.P 84 [u.lv, .int .i64 p] (.tup [.int .i64 (otherV p u), .bool (otherB p u)]) := by
  refine FSpec_of_code env_ok (fn := Tryz.f84) Tryz.func84 rfl Tryz.call84 _ _ ?_
  ((repeat ((conv => whnf); first | refine brT ?_ | refine brF ?_)); conv => whnf)
  (refine ⟨fun h => ?_, fun h => ?_⟩ <;> rw [h])
  · rw [show otherV p u = u.wife by unfold otherV; rw [h], show otherB p u = true by unfold otherB; rw [h]]
    ((repeat ((conv => whnf); first | refine brT ?_ | refine brF ?_)); conv => whnf)
    refine ⟨rfl, rfl, ?_⟩
    ((repeat ((conv => whnf); first | refine brT ?_ | refine brF ?_)); conv => whnf)
    exact ⟨rfl, List.nodup_nil⟩
  · rw [show otherV p u = u.husband by unfold otherV; rw [h], show otherB p u = eqI u.wife p by unfold otherB; rw [h]]
    ((repeat ((conv => whnf); first | refine brT ?_ | refine brF ?_)); conv => whnf)
    refine ⟨true, by kernel_rfl, ?_⟩
    ((repeat ((conv => whnf); first | refine brT ?_ | refine brF ?_)); conv => whnf)
    refine ⟨rfl, rfl, ?_⟩
    ((repeat ((conv => whnf); first | refine brT ?_ | refine brF ?_)); conv => whnf)
    exact ⟨rfl, List.nodup_nil⟩
end Go.Proofs.YtgkjafmmekjjlaaGreat
namespace Go.Proofs.YtgkjafmmekjjlaaGreat
open Go.Lg
def lasts (y : Int) : Option Int → Bool
  | none => true
  | some e => ltI y e
def keepAt (ps : List Per) (y : Int) (u : Uni) : Bool := leI u.since y && lasts y (endO ps u)
theorem keepAt_spec (ps : List Per) (us : List Uni) (y : Int) (u : Uni) (h : UniIn ps u) : FSpec env.P 166 [u.lv, .ref (famLV ps us), .ref (.int .i64 y)] (.bool (keepAt ps y u)) := by
  refine FSpec_of_code env_ok (fn := Tryz.f166) Tryz.func166 rfl Tryz.call166 _ _ ?_
  have hs := endOf_spec ps us u h
  cases he : endO ps u <;> rw [he] at hs
  · ((repeat' (((repeat ((conv => whnf); first | refine brT ?_ | refine brF ?_)); conv => whnf); first | (refine And.intro ?_ ?_ <;> (intro h; rw [h]; revert h; intro _)) | (refine Exists.intro true (And.intro (a := drawB _ _ = true) (by kernel_rfl) ?_)) | (refine Exists.intro _ (And.intro (hs) ?_)))); all_goals ((repeat ((conv => whnf); first | refine brT ?_ | refine brF ?_)); conv => whnf))
    all_goals (refine fin ?_; simp_all [keepAt, lasts, notB])
  · ((repeat' (((repeat ((conv => whnf); first | refine brT ?_ | refine brF ?_)); conv => whnf); first | (refine And.intro ?_ ?_ <;> (intro h; rw [h]; revert h; intro _)) | (refine Exists.intro true (And.intro (a := drawB _ _ = true) (by kernel_rfl) ?_)) | (refine Exists.intro _ (And.intro (hs) ?_)))); all_goals ((repeat ((conv => whnf); first | refine brT ?_ | refine brF ?_)); conv => whnf))
    all_goals (refine fin ?_; simp_all [keepAt, lasts, notB])
theorem partnersInAt_h (keep : Uni → Bool) (ps : List Per) (us : List Uni) (p y : Int) (hu : us.length ≤ 60)
    (hk : ∀ (k : Nat) (h : k < us.length), FSpec env.P 166 [us[k].lv, .ref (famLV ps us), .ref (.int .i64 y)] (.bool (keep us[k]))) :
    HSpec env.P 159 [famLV ps us, .int .i64 p, .clos 166 [.hp 0 0 [], .hp 1 0 []]] [.box (famLV ps us), .box (.int .i64 y)] (.hs 2 ((othersTo keep p us us.length).map intLV).length) [.box (famLV ps us), .box (.int .i64 y), .arr 3 1 ((othersTo keep p us us.length).map intLV)] := by
  refine HSpec_of_code (E := env.x [] 2) env_ok.x (fn := Tryz.f159) Tryz.func159 rfl Tryz.call159 _ _ _ _ ?_
  ((repeat ((conv => whnf); first | refine brT ?_ | refine brF ?_)); conv => whnf)
  intro hn
  ((repeat ((conv => whnf); first | refine brT ?_ | refine brF ?_)); conv => whnf)
  refine loop_ruleR (α := Nat) [.old 0, .old 1, .old 2, .nil 3 1] (fun k => [(13, .int .i64 (k : Int)), (7, .hs 3 ((othersTo keep p us k).map intLV).length)]) (fun k => [.box (famLV ps us), .box (.int .i64 y), .box (famLV ps us), .arr 3 1 ((othersTo keep p us k).map intLV)])
    (fun k => us.length - k) (fun k => k ≤ us.length) 0 (Nat.zero_le _) ?_ ?_
  · refine ⟨?_, ⟨rfl, rfl, rfl, rfl, rfl, rfl, rfl, rfl, trivial⟩, rfl⟩
    repeat ((conv => whnf); first | refine ⟨rfl, rfl, ?_⟩)
    trivial
  intro k hk0
  ((repeat ((conv => whnf); first | refine brT ?_ | refine brF ?_)); conv => whnf)
  (refine ⟨fun h1 => ?_, fun h1 => ?_⟩ <;> rw [h1])
  · have hlt : k < us.length := by rw [ltI_t] at h1; simp at h1; omega
    have hs := othersTo_succ keep p us hlt
    have hl := othersTo_len keep p us k
    have hl1 := othersTo_len keep p us (k + 1)
    have e : LV.int .i64 (IntKind.i64.wrap ((k : Int) + 1)) = LV.int .i64 ((k + 1 : Nat) : Int) := step_i hlt (by unfold Go.maxLen; omega)
    ((repeat ((conv => whnf); first | refine brT ?_ | refine brF ?_)); conv => whnf)
    refine ⟨k, us[k].lv, rfl, by simp [hlt], rfl, ?_⟩
    ((repeat ((conv => whnf); first | refine brT ?_ | refine brF ?_)); conv => whnf)
    refine ⟨_, hk k hlt, ?_⟩
    generalize us[k] = u at hs
    ((repeat ((conv => whnf); first | refine brT ?_ | refine brF ?_)); conv => whnf)
    (refine ⟨fun h2 => ?_, fun h2 => ?_⟩ <;> rw [h2])
    · rw [notB_t] at h2
      rw [show otherL keep p u = [] by unfold otherL; rw [h2], List.append_nil] at hs
      ((repeat ((conv => whnf); first | refine brT ?_ | refine brF ?_)); conv => whnf)
      refine round_endR [.old 0, .old 1, .old 2, .old 3] (k + 1) hlt (by omega) ⟨?_, ⟨rfl, rfl, rfl, rfl, rfl, rfl, rfl, congrArg (Blk.arr 3 1) (by rw [hs]), trivial⟩, rfl⟩
      have e3 : LV.hs 3 ((othersTo keep p us k).map intLV).length = LV.hs 3 ((othersTo keep p us (k + 1)).map intLV).length := by rw [hs]
      repeat ((conv => whnf); first | refine ⟨rfl, e, ?_⟩ | refine ⟨rfl, e3, ?_⟩ | refine ⟨rfl, rfl, ?_⟩)
      trivial
    rw [notB_f] at h2
    ((repeat ((conv => whnf); first | refine brT ?_ | refine brF ?_)); conv => whnf)
    (refine ⟨fun h3 => ?_, fun h3 => ?_⟩ <;> rw [h3])
    · rw [show otherL keep p u = [u.wife] by unfold otherL; rw [h2, h3]] at hs
      have e2 : ((othersTo keep p us k).map intLV ++ [LV.int .i64 u.wife]) = (othersTo keep p us (k + 1)).map intLV := by rw [hs, List.map_append]; rfl
      have e3 : LV.hs 3 ((othersTo keep p us k).map intLV ++ [LV.int .i64 u.wife]).length = LV.hs 3 ((othersTo keep p us (k + 1)).map intLV).length := by rw [e2]
      ((repeat ((conv => whnf); first | refine brT ?_ | refine brF ?_)); conv => whnf)
      refine ⟨rfl, rfl, ?_, ?_, ?_⟩
      · rw [e2]; unfold Go.maxLen; simp; omega
      · rw [e2]; simp; omega
      ((repeat ((conv => whnf); first | refine brT ?_ | refine brF ?_)); conv => whnf)
      refine round_endR [.old 0, .old 1, .old 2, .old 6] (k + 1) hlt (by omega) ⟨?_, ⟨rfl, rfl, rfl, rfl, rfl, rfl, rfl, congrArg (Blk.arr 3 1) e2, trivial⟩, rfl⟩
      repeat ((conv => whnf); first | refine ⟨rfl, e, ?_⟩ | refine ⟨rfl, e3, ?_⟩ | refine ⟨rfl, rfl, ?_⟩)
      trivial
    ((repeat ((conv => whnf); first | refine brT ?_ | refine brF ?_)); conv => whnf)
    (refine ⟨fun h4 => ?_, fun h4 => ?_⟩ <;> rw [h4])
    · rw [show otherL keep p u = [u.husband] by unfold otherL; rw [h2, h3, h4]] at hs
      have e2 : ((othersTo keep p us k).map intLV ++ [LV.int .i64 u.husband]) = (othersTo keep p us (k + 1)).map intLV := by rw [hs, List.map_append]; rfl
      have e3 : LV.hs 3 ((othersTo keep p us k).map intLV ++ [LV.int .i64 u.husband]).length = LV.hs 3 ((othersTo keep p us (k + 1)).map intLV).length := by rw [e2]
      ((repeat ((conv => whnf); first | refine brT ?_ | refine brF ?_)); conv => whnf)
      refine ⟨rfl, rfl, ?_, ?_, ?_⟩
      · rw [e2]; unfold Go.maxLen; simp; omega
      · rw [e2]; simp; omega
      ((repeat ((conv => whnf); first | refine brT ?_ | refine brF ?_)); conv => whnf)
      refine round_endR [.old 0, .old 1, .old 2, .old 6] (k + 1) hlt (by omega) ⟨?_, ⟨rfl, rfl, rfl, rfl, rfl, rfl, rfl, congrArg (Blk.arr 3 1) e2, trivial⟩, rfl⟩
      repeat ((conv => whnf); first | refine ⟨rfl, e, ?_⟩ | refine ⟨rfl, e3, ?_⟩ | refine ⟨rfl, rfl, ?_⟩)
      trivial
    · rw [show otherL keep p u = [] by unfold otherL; rw [h2, h3, h4], List.append_nil] at hs
      ((repeat ((conv => whnf); first | refine brT ?_ | refine brF ?_)); conv => whnf)
      refine round_endR [.old 0, .old 1, .old 2, .old 3] (k + 1) hlt (by omega) ⟨?_, ⟨rfl, rfl, rfl, rfl, rfl, rfl, rfl, congrArg (Blk.arr 3 1) (by rw [hs]), trivial⟩, rfl⟩
      have e3 : LV.hs 3 ((othersTo keep p us k).map intLV).length = LV.hs 3 ((othersTo keep p us (k + 1)).map intLV).length := by rw [hs]
      repeat ((conv => whnf); first | refine ⟨rfl, e, ?_⟩ | refine ⟨rfl, e3, ?_⟩ | refine ⟨rfl, rfl, ?_⟩)
      trivial
  · have h3 : k = us.length := by rw [ltI_f] at h1; simp at h1; omega
    subst h3
    ((repeat ((conv => whnf); first | refine brT ?_ | refine brF ?_)); conv => whnf)
    exact ⟨[.hs 2 ((othersTo keep p us us.length).map intLV).length], rfl, rfl, .inr ⟨[.old 0, .old 1, .old 3], ⟨rfl, rfl, trivial⟩, ⟨rfl, rfl, rfl, rfl, rfl, rfl, trivial⟩, rfl⟩⟩
end Go.Proofs.YtgkjafmmekjjlaaGreat
namespace Go.Proofs.YtgkjafmmekjjlaaGreat
open Go.Lg
def marriedL (ps : List Per) (us : List Uni) (p y : Int) : List Int := match hasP ps us p with
  | true => othersTo (keepAt ps y) p us us.length
  | false => []
theorem other_eq2 (keep : Uni → Bool) (p : Int) (u : Uni) : otherL keep p u = match otherB p u && keep u with | true => [otherV p u] | false => [] := by
  unfold otherL otherB otherV
  rw [eqI_comm p u.husband, eqI_comm p u.wife]
  cases keep u <;> cases eqI u.husband p <;> cases eqI u.wife p <;> rfl
theorem partnersAt_h (ps : List Per) (us : List Uni) (p y : Int) (hok : famOk ps us = true) : HSpec env.P 153 [famLV ps us, .int .i64 p, .int .i64 y] [] (.hs 0 ((othersTo (keepAt ps y) p us us.length).map intLV).length) [.arr 3 1 ((othersTo (keepAt ps y) p us us.length).map intLV)] := by
  refine HSpec_of_code (E := env.x [159] 0) env_ok.x (fn := Tryz.f153) Tryz.func153 rfl Tryz.call153 _ _ _ _ ?_
  ((repeat ((conv => whnf); first | refine brT ?_ | refine brF ?_)); conv => whnf)
  refine ⟨[0, 1], _, _, _, _, partnersInAt_h (keepAt ps y) ps us p y (famOk_parts hok).2.1 (fun k hk => keepAt_spec ps us y us[k] (uni_of hok hk).1), rfl, rfl, rfl, trivial, ?_⟩
  ((repeat ((conv => whnf); first | refine brT ?_ | refine brF ?_)); conv => whnf)
  refine ⟨[.hs 0 _], rfl, rfl, .inr ⟨[.old 2], ⟨rfl, rfl, trivial⟩, ⟨rfl, rfl, trivial⟩, rfl⟩⟩
theorem marriedAt_spec (ps : List Per) (us : List Uni) (p y : Int) : FSpec env.P 78 [famLV ps us, .int .i64 p, .int .i64 y] (.own 3 1 ((marriedL ps us p y).map intLV)) := by
  refine FSpec_of_code env_ok (fn := Tryz.f78) Tryz.func78 rfl Tryz.call78 _ _ ?_
  ((repeat ((conv => whnf); first | refine brT ?_ | refine brF ?_)); conv => whnf)
  refine ⟨_, l1Has_spec ps us p, ?_⟩
  ((repeat ((conv => whnf); first | refine brT ?_ | refine brF ?_)); conv => whnf)
  (refine ⟨fun h => ?_, fun h => ?_⟩ <;> rw [h])
  · rw [notB_t] at h
    have e : marriedL ps us p y = [] := by unfold marriedL; rw [h]
    rw [e]
    ((repeat ((conv => whnf); first | refine brT ?_ | refine brF ?_)); conv => whnf)
    exact ⟨by decide, rfl, List.nodup_nil⟩
  · rw [notB_f] at h
    obtain ⟨p0, pl, hok⟩ := hasP_lt h
    have hu := (famOk_parts hok).2.1
    have e : marriedL ps us p y = othersTo (keepAt ps y) p us us.length := by unfold marriedL; rw [h]
    rw [e]
    ((repeat ((conv => whnf); first | refine brT ?_ | refine brF ?_)); conv => whnf)
    intro hn
    ((repeat ((conv => whnf); first | refine brT ?_ | refine brF ?_)); conv => whnf)
    refine loop_rule (α := Nat) (fun k => [(18, .undef), (22, .int .i64 (k : Int)), (7, .hs 1 ((othersTo (keepAt ps y) p us k).map intLV).length)]) (fun k => [.box (famLV ps us), .arr 3 1 ((othersTo (keepAt ps y) p us k).map intLV)])
      (fun k => us.length - k) (fun k => k ≤ us.length) 0 (Nat.zero_le _) ?_ ?_
    · refine ⟨?_, ⟨rfl, rfl, trivial⟩, rfl, rfl⟩
      ((repeat ((conv => whnf); refine ⟨rfl, ?_⟩)); trivial)
    intro k hk0
    ((repeat ((conv => whnf); first | refine brT ?_ | refine brF ?_)); conv => whnf)
    (refine ⟨fun h1 => ?_, fun h1 => ?_⟩ <;> rw [h1])
    · have hlt : k < us.length := by rw [ltI_t] at h1; simp at h1; omega
      have hs := othersTo_succ (keepAt ps y) p us hlt
      have hl := othersTo_len (keepAt ps y) p us k
      have hl1 := othersTo_len (keepAt ps y) p us (k + 1)
      have e : LV.int .i64 (IntKind.i64.wrap ((k : Int) + 1)) = LV.int .i64 ((k + 1 : Nat) : Int) := step_i hlt (by unfold Go.maxLen; omega)
      obtain ⟨hin, hy⟩ := uni_of hok hlt
      have hend := l1End_spec ps us us[k] hin hy
      ((repeat ((conv => whnf); first | refine brT ?_ | refine brF ?_)); conv => whnf)
      refine ⟨k, us[k].lv, rfl, by simp [hlt], rfl, ?_⟩
      ((repeat ((conv => whnf); first | refine brT ?_ | refine brF ?_)); conv => whnf)
      refine ⟨_, l1Other_spec us[k] p, ?_⟩
      generalize us[k] = u at hs hend
      cases he : endO ps u <;> rw [he] at hend
      all_goals
        ((repeat' (((repeat ((conv => whnf); first | refine brT ?_ | refine brF ?_)); conv => whnf); first | (refine And.intro ?_ ?_ <;> (intro h; rw [h]; revert h; intro _)) | (refine Exists.intro true (And.intro (a := drawB _ _ = true) (by kernel_rfl) ?_)) | (refine Exists.intro _ (And.intro (hend) ?_)))); all_goals ((repeat ((conv => whnf); first | refine brT ?_ | refine brF ?_)); conv => whnf))
      all_goals
        first
        | (have e1 : othersTo (keepAt ps y) p us (k + 1) = othersTo (keepAt ps y) p us k ++ [otherV p u] := by { rw [hs, other_eq2]; simp_all [keepAt, lasts, notB] }
           have e2 : ((othersTo (keepAt ps y) p us k).map intLV ++ [LV.int .i64 (otherV p u)]) = (othersTo (keepAt ps y) p us (k + 1)).map intLV := by { rw [e1, List.map_append]; rfl }
           have e3 : LV.hs 1 ((othersTo (keepAt ps y) p us k).map intLV ++ [LV.int .i64 (otherV p u)]).length = LV.hs 1 ((othersTo (keepAt ps y) p us (k + 1)).map intLV).length := by rw [e2]
           have m1 : ((othersTo (keepAt ps y) p us k).map intLV ++ [LV.int .i64 (otherV p u)]).length ≤ Go.maxLen := by { rw [e2]; unfold Go.maxLen; simp; omega }
           have m2 : ((othersTo (keepAt ps y) p us k).map intLV ++ [LV.int .i64 (otherV p u)]).length * 8 ≤ 140737488355328 := by { rw [e2]; simp; omega }
           refine ⟨rfl, rfl, m1, m2, ?_⟩
           ((repeat ((conv => whnf); first | refine brT ?_ | refine brF ?_)); conv => whnf)
           refine round_endR [.old 0, .old 4] (k + 1) hlt (by omega) ⟨?_, ⟨rfl, rfl, rfl, congrArg (Blk.arr 3 1) e2, trivial⟩, rfl⟩
           repeat ((conv => whnf); first | refine ⟨rfl, e, ?_⟩ | refine ⟨rfl, e3, ?_⟩ | refine ⟨rfl, rfl, ?_⟩)
           trivial)
        | (have e1 : othersTo (keepAt ps y) p us (k + 1) = othersTo (keepAt ps y) p us k := by { rw [hs, other_eq2]; simp_all [keepAt, lasts, notB] }
           have e3 : LV.hs 1 ((othersTo (keepAt ps y) p us k).map intLV).length = LV.hs 1 ((othersTo (keepAt ps y) p us (k + 1)).map intLV).length := by rw [e1]
           refine round_endR [.old 0, .old 1] (k + 1) hlt (by omega) ⟨?_, ⟨rfl, rfl, rfl, congrArg (Blk.arr 3 1) (by rw [e1]), trivial⟩, rfl⟩
           repeat ((conv => whnf); first | refine ⟨rfl, e, ?_⟩ | refine ⟨rfl, e3, ?_⟩ | refine ⟨rfl, rfl, ?_⟩)
           trivial)
    · have h3 : k = us.length := by rw [ltI_f] at h1; simp at h1; omega
      subst h3
      ((repeat ((conv => whnf); first | refine brT ?_ | refine brF ?_)); conv => whnf)
      exact ⟨rfl, rfl, rfl, rfl, by simp⟩
end Go.Proofs.YtgkjafmmekjjlaaGreat
namespace Go.Proofs.YtgkjafmmekjjlaaGreat
open Go.Lg Go.Pm
theorem any_notB {α : Type} (q : α → Bool) : ∀ xs : List α, notB (xs.any fun x => notB (q x)) = xs.all q
  | [] => by simp [notB]
  | x :: xs => by
    rw [List.any_cons, List.all_cons, ← any_notB q xs]
    cases q x <;> simp [notB]
end Go.Proofs.YtgkjafmmekjjlaaGreat
namespace Go.Proofs.YtgkjafmmekjjlaaGreat
open Go.Lg
structure Lw where
  degree : Int
  canon : Int
  affinity : Int
  age : Int
  wives : Int
  husbands : Int
  patri : Bool
  matri : Bool
def Lw.lv (l : Lw) : LV := .st [.int .i64 l.degree, .int .i64 l.canon, .int .i64 l.affinity, .int .i64 l.age, .int .i64 l.wives, .int .i64 l.husbands, .bool l.patri, .bool l.matri]
inductive Sg where
  | num (v lo hi : Int)
  | cho (b : Bool)
def Sg.lv : Sg → LV
  | .num v lo hi => .ifc 162 [.ref (.int .i64 v), .int .i64 lo, .int .i64 hi]
  | .cho b => .ifc 165 [.ref (.bool b)]
def Sg.ok : Sg → Bool
  | .num v lo hi => leI lo v && leI v hi
  | .cho _ => true
def clLV (c : ByteArray × Sg) : LV := .st [.str c.1, c.2.lv]
def lawCl (l : Lw) : List (ByteArray × Sg) :=
  [(⟨#[100, 101, 103, 114, 101, 101]⟩, .num l.degree 0 20), (⟨#[99, 97, 110, 111, 110]⟩, .num l.canon 0 10), (⟨#[97, 102, 102, 105, 110, 105, 116, 121]⟩, .num l.affinity 0 20), (⟨#[97, 103, 101]⟩, .num l.age 0 99),
   (⟨#[119, 105, 118, 101, 115]⟩, .num l.wives 1 9), (⟨#[104, 117, 115, 98, 97, 110, 100, 115]⟩, .num l.husbands 1 9), (⟨#[112, 97, 116, 114, 105, 108, 105, 110, 101]⟩, .cho l.patri), (⟨#[109, 97, 116, 114, 105, 108, 105, 110, 101]⟩, .cho l.matri)]
theorem numOk_spec (v lo hi : Int) : FSpec env.P 204 [.st [.ref (.int .i64 v), .int .i64 lo, .int .i64 hi]] (.bool (leI lo v && leI v hi)) := by
  refine FSpec_of_code env_ok (fn := Tryz.f204) Tryz.func204 rfl Tryz.call204 _ _ ?_
  ((repeat ((conv => whnf); first | refine brT ?_ | refine brF ?_)); conv => whnf)
  refine ⟨true, by kernel_rfl, ?_⟩
  ((repeat ((conv => whnf); first | refine brT ?_ | refine brF ?_)); conv => whnf)
  (refine ⟨fun h => ?_, fun h => ?_⟩ <;> rw [h])
  · ((repeat ((conv => whnf); first | refine brT ?_ | refine brF ?_)); conv => whnf)
    exact ⟨by rfl, List.nodup_nil⟩
  · ((repeat ((conv => whnf); first | refine brT ?_ | refine brF ?_)); conv => whnf)
    exact ⟨by rfl, List.nodup_nil⟩
theorem choOk_spec (b : Bool) : FSpec env.P 207 [.st [.ref (.bool b)]] (.bool true) := by
  refine FSpec_of_code env_ok (fn := Tryz.f207) Tryz.func207 rfl Tryz.call207 _ _ ?_
  ((repeat ((conv => whnf); first | refine brT ?_ | refine brF ?_)); conv => whnf)
  exact fin rfl
theorem isLaw1_spec (c : ByteArray × Sg) : FSpec env.P 89 [clLV c] (.bool (notB c.2.ok)) := by
  refine FSpec_of_code env_ok (fn := Tryz.f89) Tryz.func89 rfl Tryz.call89 _ _ ?_
  obtain ⟨s, g⟩ := c
  cases g with
  | num v lo hi =>
    ((repeat ((conv => whnf); first | refine brT ?_ | refine brF ?_)); conv => whnf)
    refine ⟨0, _, rfl, _, numOk_spec v lo hi, ?_⟩
    ((repeat ((conv => whnf); first | refine brT ?_ | refine brF ?_)); conv => whnf)
    exact fin rfl
  | cho b =>
    ((repeat ((conv => whnf); first | refine brT ?_ | refine brF ?_)); conv => whnf)
    refine ⟨1, _, rfl, _, choOk_spec b, ?_⟩
    ((repeat ((conv => whnf); first | refine brT ?_ | refine brF ?_)); conv => whnf)
    exact fin rfl
theorem clausesOf_spec (l : Lw) : FSpec env.P 88 [.ref l.lv] (.own 127 2 ((lawCl l).map clLV)) := by
  obtain ⟨d, c, a, g, w, h, p, m⟩ := l
  show FSpec env.P 88 [.ref (.st [.int .i64 d, .int .i64 c, .int .i64 a, .int .i64 g, .int .i64 w, .int .i64 h, .bool p, .bool m])] _
  refine FSpec_of_code env_ok (fn := Tryz.f88) Tryz.func88 rfl Tryz.call88 _ _ ?_
  ((repeat ((conv => whnf); first | refine brT ?_ | refine brF ?_)); conv => whnf)
  refine ⟨false, 48, by kernel_rfl, ?_⟩
  ((repeat ((conv => whnf); first | refine brT ?_ | refine brF ?_)); conv => whnf)
  exact ⟨rfl, rfl, rfl, rfl, by simp⟩
end Go.Proofs.YtgkjafmmekjjlaaGreat
namespace Go.Proofs.YtgkjafmmekjjlaaGreat
open Go.Lg
theorem indexCl (F : Nat) (q : ByteArray × Sg → Bool) (xs : List (ByteArray × Sg)) (hF : ∀ x, FSpec env.P F [clLV x] (.bool (q x))) :
    FSpec env.P 116 [.sl (xs.map clLV), .clos F []] (.int .i64 (idxFrom q 0 xs)) := by
  refine FSpec_of_code env_ok (fn := Tryz.f116) Tryz.func116 rfl Tryz.call116 _ _ ?_
  ((repeat ((conv => whnf); first | refine brT ?_ | refine brF ?_)); conv => whnf)
  intro hp
  have hp' : xs.length ≤ Go.maxLen := by simpa using hp
  ((repeat ((conv => whnf); first | refine brT ?_ | refine brF ?_)); conv => whnf)
  refine loop_rule (α := Nat) (fun k => [(8, .int .i64 (k : Int))]) (fun k => []) (fun k => xs.length - k) (fun k => k ≤ xs.length ∧ idxFrom q k (xs.drop k) = idxFrom q 0 xs) 0 ⟨Nat.zero_le _, by simp⟩ ?_ ?_
  · refine ⟨?_, trivial, rfl, rfl⟩
    ((repeat ((conv => whnf); refine ⟨rfl, ?_⟩)); trivial)
  rintro k ⟨hk, hf⟩
  ((repeat ((conv => whnf); first | refine brT ?_ | refine brF ?_)); conv => whnf)
  (refine ⟨fun h1 => ?_, fun h1 => ?_⟩ <;> rw [h1])
  · have hlt : k < xs.length := by rw [ltI_t] at h1; simp at h1; omega
    rw [List.drop_eq_getElem_cons hlt] at hf
    simp only [idxFrom] at hf
    have hg : (xs.map clLV)[k]? = some (clLV xs[k]) := by simp [hlt]
    generalize xs[k] = x at hf hg
    have hx := hF x
    have e := step_i hlt hp'
    obtain ⟨s, g⟩ := x
    cases g
    all_goals
      ((repeat ((conv => whnf); first | refine brT ?_ | refine brF ?_)); conv => whnf)
      refine ⟨k, _, rfl, hg, rfl, ?_⟩
      ((repeat ((conv => whnf); first | refine brT ?_ | refine brF ?_)); conv => whnf)
      refine ⟨_, hx, ?_⟩
      ((repeat ((conv => whnf); first | refine brT ?_ | refine brF ?_)); conv => whnf)
      (refine ⟨fun h2 => ?_, fun h2 => ?_⟩ <;> rw [h2])
      · rw [h2] at hf
        ((repeat ((conv => whnf); first | refine brT ?_ | refine brF ?_)); conv => whnf)
        exact ⟨rfl, by rw [← hf], List.nodup_nil⟩
      · rw [h2] at hf
        ((repeat ((conv => whnf); first | refine brT ?_ | refine brF ?_)); conv => whnf)
        refine round_end (k + 1) ⟨hlt, hf⟩ (by omega) ⟨?_, trivial, rfl, rfl⟩
        ((repeat ((conv => whnf); first | refine ⟨e, ?_⟩ | refine ⟨rfl, ?_⟩)); trivial)
  · have h3 : xs.length ≤ k := by rw [ltI_f] at h1; simp at h1; omega
    rw [List.drop_eq_nil_of_le h3] at hf
    ((repeat ((conv => whnf); first | refine brT ?_ | refine brF ?_)); conv => whnf)
    exact ⟨rfl, by rw [← hf]; rfl, List.nodup_nil⟩
theorem containsCl (F : Nat) (q : ByteArray × Sg → Bool) (xs : List (ByteArray × Sg)) (hF : ∀ x, FSpec env.P F [clLV x] (.bool (q x))) :
    FSpec env.P 87 [.sl (xs.map clLV), .clos F []] (.bool (xs.any q)) := by
  refine FSpec_of_code env_ok (fn := Tryz.f87) Tryz.func87 rfl Tryz.call87 _ _ ?_
  ((repeat ((conv => whnf); first | refine brT ?_ | refine brF ?_)); conv => whnf)
  refine ⟨_, indexCl F q xs hF, ?_⟩
  ((repeat ((conv => whnf); first | refine brT ?_ | refine brF ?_)); conv => whnf)
  exact fin (idxFrom_ge _ _ _)
def inB (x lo hi : Int) : Bool := leI lo x && leI x hi
def lawOk (l : Lw) : Bool := inB l.degree 0 20 && (inB l.canon 0 10 && (inB l.affinity 0 20 && (inB l.age 0 99 && (inB l.wives 1 9 && inB l.husbands 1 9))))
theorem lawCl_ok (l : Lw) : (lawCl l).all (fun c => c.2.ok) = lawOk l := by
  simp [lawCl, Sg.ok, lawOk, inB]
theorem isLaw_impl (l : Lw) : FSpec env.P 48 [l.lv] (.bool (lawOk l)) := by
  have hc := clausesOf_spec l
  have hk := containsCl 89 (fun c => notB c.2.ok) (lawCl l) isLaw1_spec
  rw [← lawCl_ok, ← any_notB]
  generalize (lawCl l).any (fun c => notB c.2.ok) = b at hk ⊢
  generalize (lawCl l).map clLV = L at hc hk
  obtain ⟨d, c, a, g, w, h, p, m⟩ := l
  refine FSpec_of_code (E := { env with fb := [36] }) (env_ok.fbs _) (fn := Tryz.f48) Tryz.func48 rfl Tryz.call48 _ _ ?_
  ((repeat ((conv => whnf); first | refine brT ?_ | refine brF ?_)); conv => whnf)
  refine ⟨_, hc, ?_⟩
  ((repeat ((conv => whnf); first | refine brT ?_ | refine brF ?_)); conv => whnf)
  refine ⟨_, hk, ?_⟩
  ((repeat ((conv => whnf); first | refine brT ?_ | refine brF ?_)); conv => whnf)
  exact fin rfl
theorem isLaw_spec (l : Lw) : FSpec env.P 42 [l.lv] (.bool (lawOk l)) := by
  obtain ⟨d, c, a, g, w, h, p, m⟩ := l
  refine FSpec_of_code env_ok (fn := Tryz.f42) Tryz.func42 rfl Tryz.call42 _ _ ?_
  ((repeat' (((repeat ((conv => whnf); first | refine brT ?_ | refine brF ?_)); conv => whnf); first | (refine And.intro ?_ ?_ <;> (intro h; rw [h]; revert h; intro _)) | (refine Exists.intro true (And.intro (a := drawB _ _ = true) (by kernel_rfl) ?_)) | (refine Exists.intro _ (And.intro (l1In_spec _ _ _) ?_)))); all_goals ((repeat ((conv => whnf); first | refine brT ?_ | refine brF ?_)); conv => whnf))
  all_goals (refine fin ?_; simp_all [lawOk, inB])
theorem toLaw_spec (l : Lw) : FSpec env.P 12 [l.lv] l.lv := by
  obtain ⟨d, c, a, g, w, h, p, m⟩ := l
  refine FSpec_of_code env_ok (fn := Tryz.f12) Tryz.func12 rfl Tryz.call12 _ _ ?_
  ((repeat ((conv => whnf); first | refine brT ?_ | refine brF ?_)); conv => whnf)
  refine ⟨_, rfl, rfl, ?_⟩
  simp [Lw.lv, exW, exsW]
end Go.Proofs.YtgkjafmmekjjlaaGreat
namespace Go.Proofs.YtgkjafmmekjjlaaGreat
open Go.Lg Go.Pm
def cLV (l : Lw) (ps : List Per) (us : List Uni) (F M : List Int) : LV := .st [l.lv, famLV ps us, upL ps, rowSl F, rowSl M]
def mLV (a b y : Int) : LV := .st [.int .i64 a, .int .i64 b, .int .i64 y]
theorem per_get {ps : List Per} {a : Nat} (h : a < ps.length) : (ps.map Per.lv)[a]? = some ps[a].lv := by
  rw [List.getElem?_map, List.getElem?_eq_getElem h]; rfl
theorem courtOf_spec (l : Lw) (ps : List Per) (us : List Uni) (hf : famOk ps us = true) :
    FSpec env.P 50 [famLV ps us, l.lv] (cLV l ps us (fos ps 1) (fos ps 2)) := by
  have h1 := climbs_f ps us (fam_40 hf) (fam_pi hf) (fam_sh hf)
  have h2 := foundersOf_f ps us 1 (fam_40 hf) (fam_pi hf)
  have h3 := foundersOf_f ps us 2 (fam_40 hf) (fam_pi hf)
  obtain ⟨d, c, aa, g, w, h, p, m⟩ := l
  generalize fos ps 1 = F at h2 ⊢
  generalize fos ps 2 = M at h3 ⊢
  unfold cLV upL
  refine FSpec_of_code env_ok (fn := Tryz.f50) Tryz.func50 rfl Tryz.call50 _ _ ?_
  ((repeat ((conv => whnf); first | refine brT ?_ | refine brF ?_)); conv => whnf)
  refine ⟨true, by kernel_rfl, ?_⟩
  ((repeat ((conv => whnf); first | refine brT ?_ | refine brF ?_)); conv => whnf)
  refine ⟨_, h1, ?_⟩
  ((repeat ((conv => whnf); first | refine brT ?_ | refine brF ?_)); conv => whnf)
  refine ⟨_, h2, ?_⟩
  ((repeat ((conv => whnf); first | refine brT ?_ | refine brF ?_)); conv => whnf)
  refine ⟨_, h3, ?_⟩
  ((repeat ((conv => whnf); first | refine brT ?_ | refine brF ?_)); conv => whnf)
  refine ⟨_, rfl, rfl, ?_⟩
  simp [Lw.lv, famLV, rowSl, rowOw, exW, exsW, dms_map, dm]
theorem wrongSex_spec (l : Lw) (ps : List Per) (us : List Uni) (F M : List Int) (a b : Nat) (y : Int) (ha : a < ps.length) (hb : b < ps.length) :
    FSpec env.P 120 [cLV l ps us F M, mLV a b y] (.bool (notB (eqI ps[a].sex 1) || notB (eqI ps[b].sex 2))) := by
  have h1 := per_get ha
  have h2 := per_get hb
  obtain ⟨d, c, aa, g, w, h, p, m⟩ := l
  unfold cLV upL
  generalize ps[a] = x at h1 ⊢
  generalize ps[b] = z at h2 ⊢
  refine FSpec_of_code env_ok (fn := Tryz.f120) Tryz.func120 rfl Tryz.call120 _ _ ?_
  ((repeat ((conv => whnf); first | refine brT ?_ | refine brF ?_)); conv => whnf)
  refine ⟨a, x.lv, rfl, h1, rfl, ?_⟩
  ((repeat ((conv => whnf); first | refine brT ?_ | refine brF ?_)); conv => whnf)
  (refine ⟨fun h => ?_, fun h => ?_⟩ <;> rw [h])
  · ((repeat ((conv => whnf); first | refine brT ?_ | refine brF ?_)); conv => whnf)
    exact fin rfl
  · ((repeat ((conv => whnf); first | refine brT ?_ | refine brF ?_)); conv => whnf)
    refine ⟨b, z.lv, rfl, h2, rfl, ?_⟩
    ((repeat ((conv => whnf); first | refine brT ?_ | refine brF ?_)); conv => whnf)
    exact fin rfl
theorem isForOne_spec (C m' : LV) (l : Lw) (ps : List Per) (us : List Uni) (F M : List Int) (a b : Nat) (y : Int) (ha : a < ps.length) (hb : b < ps.length) (G : Nat) (q : Per → Bool)
    (hC : ∀ x, FSpec env.P G [x.lv, .ref C] (.bool (q x))) :
    FSpec env.P 150 [cLV l ps us F M, mLV a b y, .clos G [.ref C]] (.bool (q ps[a] || q ps[b])) := by
  have h1 := per_get ha
  have h2 := per_get hb
  obtain ⟨d, c, aa, g, w, h, p, m⟩ := l
  unfold cLV upL
  generalize ps[a] = x at h1 ⊢
  generalize ps[b] = z at h2 ⊢
  refine FSpec_of_code env_ok (fn := Tryz.f150) Tryz.func150 rfl Tryz.call150 _ _ ?_
  ((repeat ((conv => whnf); first | refine brT ?_ | refine brF ?_)); conv => whnf)
  refine ⟨a, x.lv, rfl, h1, rfl, ?_⟩
  ((repeat ((conv => whnf); first | refine brT ?_ | refine brF ?_)); conv => whnf)
  refine ⟨_, hC x, ?_⟩
  ((repeat ((conv => whnf); first | refine brT ?_ | refine brF ?_)); conv => whnf)
  (refine ⟨fun h => ?_, fun h => ?_⟩ <;> rw [h])
  · ((repeat ((conv => whnf); first | refine brT ?_ | refine brF ?_)); conv => whnf)
    exact fin rfl
  · ((repeat ((conv => whnf); first | refine brT ?_ | refine brF ?_)); conv => whnf)
    refine ⟨b, z.lv, rfl, h2, rfl, ?_⟩
    ((repeat ((conv => whnf); first | refine brT ?_ | refine brF ?_)); conv => whnf)
    refine ⟨_, hC z, ?_⟩
    ((repeat ((conv => whnf); first | refine brT ?_ | refine brF ?_)); conv => whnf)
    exact fin rfl
theorem isForOne2_spec (C C' : LV) (l : Lw) (ps : List Per) (us : List Uni) (F M : List Int) (a b : Nat) (y : Int) (ha : a < ps.length) (hb : b < ps.length) (G : Nat) (q : Per → Bool)
    (hC : ∀ x, FSpec env.P G [x.lv, .ref C, .ref C'] (.bool (q x))) :
    FSpec env.P 150 [cLV l ps us F M, mLV a b y, .clos G [.ref C, .ref C']] (.bool (q ps[a] || q ps[b])) := by
  have h1 := per_get ha
  have h2 := per_get hb
  obtain ⟨d, c, aa, g, w, h, p, m⟩ := l
  unfold cLV upL
  generalize ps[a] = x at h1 ⊢
  generalize ps[b] = z at h2 ⊢
  refine FSpec_of_code env_ok (fn := Tryz.f150) Tryz.func150 rfl Tryz.call150 _ _ ?_
  ((repeat ((conv => whnf); first | refine brT ?_ | refine brF ?_)); conv => whnf)
  refine ⟨a, x.lv, rfl, h1, rfl, ?_⟩
  ((repeat ((conv => whnf); first | refine brT ?_ | refine brF ?_)); conv => whnf)
  refine ⟨_, hC x, ?_⟩
  ((repeat ((conv => whnf); first | refine brT ?_ | refine brF ?_)); conv => whnf)
  (refine ⟨fun h => ?_, fun h => ?_⟩ <;> rw [h])
  · ((repeat ((conv => whnf); first | refine brT ?_ | refine brF ?_)); conv => whnf)
    exact fin rfl
  · ((repeat ((conv => whnf); first | refine brT ?_ | refine brF ?_)); conv => whnf)
    refine ⟨b, z.lv, rfl, h2, rfl, ?_⟩
    ((repeat ((conv => whnf); first | refine brT ?_ | refine brF ?_)); conv => whnf)
    refine ⟨_, hC z, ?_⟩
    ((repeat ((conv => whnf); first | refine brT ?_ | refine brF ?_)); conv => whnf)
    exact fin rfl
def outL (y : Int) (p : Per) : Bool := ltI y p.born || notB (livedTo p y)
def earlyL (l : Lw) (y : Int) (p : Per) : Bool := ltI y (IntKind.i64.wrap (p.born + l.age))
theorem out1_spec (a b y : Int) (p : Per) : FSpec env.P 151 [p.lv, .ref (mLV a b y)] (.bool (outL y p)) := by
  refine FSpec_of_code env_ok (fn := Tryz.f151) Tryz.func151 rfl Tryz.call151 _ _ ?_
  ((repeat ((conv => whnf); first | refine brT ?_ | refine brF ?_)); conv => whnf)
  (refine ⟨fun h => ?_, fun h => ?_⟩ <;> rw [h])
  · ((repeat ((conv => whnf); first | refine brT ?_ | refine brF ?_)); conv => whnf)
    refine fin ?_
    unfold outL; rw [h]; rfl
  · ((repeat ((conv => whnf); first | refine brT ?_ | refine brF ?_)); conv => whnf)
    refine ⟨_, livedTo_spec p y, ?_⟩
    ((repeat ((conv => whnf); first | refine brT ?_ | refine brF ?_)); conv => whnf)
    refine fin ?_
    unfold outL; rw [h]; rfl
theorem early1_spec (l : Lw) (ps : List Per) (us : List Uni) (F M : List Int) (a b y : Int) (p : Per) : FSpec env.P 152 [p.lv, .ref (cLV l ps us F M), .ref (mLV a b y)] (.bool (earlyL l y p)) := by
  obtain ⟨d, c, aa, g, w, h, p', m⟩ := l
  unfold cLV upL
  refine FSpec_of_code env_ok (fn := Tryz.f152) Tryz.func152 rfl Tryz.call152 _ _ ?_
  ((repeat ((conv => whnf); first | refine brT ?_ | refine brF ?_)); conv => whnf)
  exact fin rfl
theorem outside_spec (l : Lw) (ps : List Per) (us : List Uni) (F M : List Int) (a b : Nat) (y : Int) (ha : a < ps.length) (hb : b < ps.length) :
    FSpec env.P 121 [cLV l ps us F M, mLV a b y] (.bool (outL y ps[a] || outL y ps[b])) := by
  have h1 := isForOne_spec (mLV a b y) .nil l ps us F M a b y ha hb _ (outL y) (out1_spec a b y)
  obtain ⟨d, c, aa, g, w, h, p, m⟩ := l
  unfold cLV upL at h1 ⊢
  refine FSpec_of_code env_ok (fn := Tryz.f121) Tryz.func121 rfl Tryz.call121 _ _ ?_
  ((repeat ((conv => whnf); first | refine brT ?_ | refine brF ?_)); conv => whnf)
  refine ⟨_, h1, ?_⟩
  ((repeat ((conv => whnf); first | refine brT ?_ | refine brF ?_)); conv => whnf)
  exact fin rfl
theorem early_spec (l : Lw) (ps : List Per) (us : List Uni) (F M : List Int) (a b : Nat) (y : Int) (ha : a < ps.length) (hb : b < ps.length) :
    FSpec env.P 122 [cLV l ps us F M, mLV a b y] (.bool (earlyL l y ps[a] || earlyL l y ps[b])) := by
  have h1 := isForOne2_spec (cLV l ps us F M) (mLV a b y) l ps us F M a b y ha hb _ (earlyL l y) (early1_spec l ps us F M a b y)
  obtain ⟨d, c, aa, g, w, h, p, m⟩ := l
  unfold cLV upL at h1 ⊢
  refine FSpec_of_code env_ok (fn := Tryz.f122) Tryz.func122 rfl Tryz.call122 _ _ ?_
  ((repeat ((conv => whnf); first | refine brT ?_ | refine brF ?_)); conv => whnf)
  refine ⟨_, h1, ?_⟩
  ((repeat ((conv => whnf); first | refine brT ?_ | refine brF ?_)); conv => whnf)
  exact fin rfl
end Go.Proofs.YtgkjafmmekjjlaaGreat
namespace Go.Proofs.YtgkjafmmekjjlaaGreat
open Go.Lg Go.Pm
theorem partnersIn0_h (keep : Uni → Bool) (ps : List Per) (us : List Uni) (p : Int) (G : Nat) (hu : us.length ≤ 60)
    (hk : ∀ (k : Nat) (h : k < us.length), FSpec env.P G [us[k].lv] (.bool (keep us[k]))) :
    HSpec env.P 159 [famLV ps us, .int .i64 p, .clos G []] [] (.hs 0 ((othersTo keep p us us.length).map intLV).length) [.arr 3 1 ((othersTo keep p us us.length).map intLV)] := by
  refine HSpec_of_code (E := env.x [] 0) env_ok.x (fn := Tryz.f159) Tryz.func159 rfl Tryz.call159 _ _ _ _ ?_
  ((repeat ((conv => whnf); first | refine brT ?_ | refine brF ?_)); conv => whnf)
  intro hn
  ((repeat ((conv => whnf); first | refine brT ?_ | refine brF ?_)); conv => whnf)
  refine loop_ruleR (α := Nat) [.old 0, .nil 3 1] (fun k => [(13, .int .i64 (k : Int)), (7, .hs 1 ((othersTo keep p us k).map intLV).length)]) (fun k => [.box (famLV ps us), .arr 3 1 ((othersTo keep p us k).map intLV)])
    (fun k => us.length - k) (fun k => k ≤ us.length) 0 (Nat.zero_le _) ?_ ?_
  · refine ⟨?_, ⟨rfl, rfl, rfl, rfl, trivial⟩, rfl⟩
    repeat ((conv => whnf); first | refine ⟨rfl, rfl, ?_⟩)
    trivial
  intro k hk0
  ((repeat ((conv => whnf); first | refine brT ?_ | refine brF ?_)); conv => whnf)
  (refine ⟨fun h1 => ?_, fun h1 => ?_⟩ <;> rw [h1])
  · have hlt : k < us.length := by rw [ltI_t] at h1; simp at h1; omega
    have hs := othersTo_succ keep p us hlt
    have hl := othersTo_len keep p us k
    have hl1 := othersTo_len keep p us (k + 1)
    have e : LV.int .i64 (IntKind.i64.wrap ((k : Int) + 1)) = LV.int .i64 ((k + 1 : Nat) : Int) := step_i hlt (by unfold Go.maxLen; omega)
    ((repeat ((conv => whnf); first | refine brT ?_ | refine brF ?_)); conv => whnf)
    refine ⟨k, us[k].lv, rfl, by simp [hlt], rfl, ?_⟩
    ((repeat ((conv => whnf); first | refine brT ?_ | refine brF ?_)); conv => whnf)
    refine ⟨_, hk k hlt, ?_⟩
    generalize us[k] = u at hs
    ((repeat ((conv => whnf); first | refine brT ?_ | refine brF ?_)); conv => whnf)
    (refine ⟨fun h2 => ?_, fun h2 => ?_⟩ <;> rw [h2])
    · rw [notB_t] at h2
      rw [show otherL keep p u = [] by unfold otherL; rw [h2], List.append_nil] at hs
      ((repeat ((conv => whnf); first | refine brT ?_ | refine brF ?_)); conv => whnf)
      refine round_endR [.old 0, .old 1] (k + 1) hlt (by omega) ⟨?_, ⟨rfl, rfl, rfl, congrArg (Blk.arr 3 1) (by rw [hs]), trivial⟩, rfl⟩
      have e3 : LV.hs 1 ((othersTo keep p us k).map intLV).length = LV.hs 1 ((othersTo keep p us (k + 1)).map intLV).length := by rw [hs]
      repeat ((conv => whnf); first | refine ⟨rfl, e, ?_⟩ | refine ⟨rfl, e3, ?_⟩ | refine ⟨rfl, rfl, ?_⟩)
      trivial
    rw [notB_f] at h2
    ((repeat ((conv => whnf); first | refine brT ?_ | refine brF ?_)); conv => whnf)
    (refine ⟨fun h3 => ?_, fun h3 => ?_⟩ <;> rw [h3])
    · rw [show otherL keep p u = [u.wife] by unfold otherL; rw [h2, h3]] at hs
      have e2 : ((othersTo keep p us k).map intLV ++ [LV.int .i64 u.wife]) = (othersTo keep p us (k + 1)).map intLV := by rw [hs, List.map_append]; rfl
      have e3 : LV.hs 1 ((othersTo keep p us k).map intLV ++ [LV.int .i64 u.wife]).length = LV.hs 1 ((othersTo keep p us (k + 1)).map intLV).length := by rw [e2]
      ((repeat ((conv => whnf); first | refine brT ?_ | refine brF ?_)); conv => whnf)
      refine ⟨rfl, rfl, ?_, ?_, ?_⟩
      · rw [e2]; unfold Go.maxLen; simp; omega
      · rw [e2]; simp; omega
      ((repeat ((conv => whnf); first | refine brT ?_ | refine brF ?_)); conv => whnf)
      refine round_endR [.old 0, .old 4] (k + 1) hlt (by omega) ⟨?_, ⟨rfl, rfl, rfl, congrArg (Blk.arr 3 1) e2, trivial⟩, rfl⟩
      repeat ((conv => whnf); first | refine ⟨rfl, e, ?_⟩ | refine ⟨rfl, e3, ?_⟩ | refine ⟨rfl, rfl, ?_⟩)
      trivial
    ((repeat ((conv => whnf); first | refine brT ?_ | refine brF ?_)); conv => whnf)
    (refine ⟨fun h4 => ?_, fun h4 => ?_⟩ <;> rw [h4])
    · rw [show otherL keep p u = [u.husband] by unfold otherL; rw [h2, h3, h4]] at hs
      have e2 : ((othersTo keep p us k).map intLV ++ [LV.int .i64 u.husband]) = (othersTo keep p us (k + 1)).map intLV := by rw [hs, List.map_append]; rfl
      have e3 : LV.hs 1 ((othersTo keep p us k).map intLV ++ [LV.int .i64 u.husband]).length = LV.hs 1 ((othersTo keep p us (k + 1)).map intLV).length := by rw [e2]
      ((repeat ((conv => whnf); first | refine brT ?_ | refine brF ?_)); conv => whnf)
      refine ⟨rfl, rfl, ?_, ?_, ?_⟩
      · rw [e2]; unfold Go.maxLen; simp; omega
      · rw [e2]; simp; omega
      ((repeat ((conv => whnf); first | refine brT ?_ | refine brF ?_)); conv => whnf)
      refine round_endR [.old 0, .old 4] (k + 1) hlt (by omega) ⟨?_, ⟨rfl, rfl, rfl, congrArg (Blk.arr 3 1) e2, trivial⟩, rfl⟩
      repeat ((conv => whnf); first | refine ⟨rfl, e, ?_⟩ | refine ⟨rfl, e3, ?_⟩ | refine ⟨rfl, rfl, ?_⟩)
      trivial
    · rw [show otherL keep p u = [] by unfold otherL; rw [h2, h3, h4], List.append_nil] at hs
      ((repeat ((conv => whnf); first | refine brT ?_ | refine brF ?_)); conv => whnf)
      refine round_endR [.old 0, .old 1] (k + 1) hlt (by omega) ⟨?_, ⟨rfl, rfl, rfl, congrArg (Blk.arr 3 1) (by rw [hs]), trivial⟩, rfl⟩
      have e3 : LV.hs 1 ((othersTo keep p us k).map intLV).length = LV.hs 1 ((othersTo keep p us (k + 1)).map intLV).length := by rw [hs]
      repeat ((conv => whnf); first | refine ⟨rfl, e, ?_⟩ | refine ⟨rfl, e3, ?_⟩ | refine ⟨rfl, rfl, ?_⟩)
      trivial
  · have h3 : k = us.length := by rw [ltI_f] at h1; simp at h1; omega
    subst h3
    ((repeat ((conv => whnf); first | refine brT ?_ | refine brF ?_)); conv => whnf)
    exact ⟨[.hs 0 ((othersTo keep p us us.length).map intLV).length], rfl, rfl, .inr ⟨[.old 1], ⟨rfl, rfl, trivial⟩, ⟨rfl, rfl, trivial⟩, rfl⟩⟩
theorem partnersIn1_h (keep : Uni → Bool) (ps : List Per) (us : List Uni) (p : Int) (G : Nat) (C : LV) (hu : us.length ≤ 60)
    (hk : ∀ (k : Nat) (h : k < us.length), FSpec env.P G [us[k].lv, .ref C] (.bool (keep us[k]))) :
    HSpec env.P 159 [famLV ps us, .int .i64 p, .clos G [.ref C]] [] (.hs 0 ((othersTo keep p us us.length).map intLV).length) [.arr 3 1 ((othersTo keep p us us.length).map intLV)] := by
  refine HSpec_of_code (E := env.x [] 0) env_ok.x (fn := Tryz.f159) Tryz.func159 rfl Tryz.call159 _ _ _ _ ?_
  ((repeat ((conv => whnf); first | refine brT ?_ | refine brF ?_)); conv => whnf)
  intro hn
  ((repeat ((conv => whnf); first | refine brT ?_ | refine brF ?_)); conv => whnf)
  refine loop_ruleR (α := Nat) [.old 0, .nil 3 1] (fun k => [(13, .int .i64 (k : Int)), (7, .hs 1 ((othersTo keep p us k).map intLV).length)]) (fun k => [.box (famLV ps us), .arr 3 1 ((othersTo keep p us k).map intLV)])
    (fun k => us.length - k) (fun k => k ≤ us.length) 0 (Nat.zero_le _) ?_ ?_
  · refine ⟨?_, ⟨rfl, rfl, rfl, rfl, trivial⟩, rfl⟩
    repeat ((conv => whnf); first | refine ⟨rfl, rfl, ?_⟩)
    trivial
  intro k hk0
  ((repeat ((conv => whnf); first | refine brT ?_ | refine brF ?_)); conv => whnf)
  (refine ⟨fun h1 => ?_, fun h1 => ?_⟩ <;> rw [h1])
  · have hlt : k < us.length := by rw [ltI_t] at h1; simp at h1; omega
    have hs := othersTo_succ keep p us hlt
    have hl := othersTo_len keep p us k
    have hl1 := othersTo_len keep p us (k + 1)
    have e : LV.int .i64 (IntKind.i64.wrap ((k : Int) + 1)) = LV.int .i64 ((k + 1 : Nat) : Int) := step_i hlt (by unfold Go.maxLen; omega)
    ((repeat ((conv => whnf); first | refine brT ?_ | refine brF ?_)); conv => whnf)
    refine ⟨k, us[k].lv, rfl, by simp [hlt], rfl, ?_⟩
    ((repeat ((conv => whnf); first | refine brT ?_ | refine brF ?_)); conv => whnf)
    refine ⟨_, hk k hlt, ?_⟩
    generalize us[k] = u at hs
    ((repeat ((conv => whnf); first | refine brT ?_ | refine brF ?_)); conv => whnf)
    (refine ⟨fun h2 => ?_, fun h2 => ?_⟩ <;> rw [h2])
    · rw [notB_t] at h2
      rw [show otherL keep p u = [] by unfold otherL; rw [h2], List.append_nil] at hs
      ((repeat ((conv => whnf); first | refine brT ?_ | refine brF ?_)); conv => whnf)
      refine round_endR [.old 0, .old 1] (k + 1) hlt (by omega) ⟨?_, ⟨rfl, rfl, rfl, congrArg (Blk.arr 3 1) (by rw [hs]), trivial⟩, rfl⟩
      have e3 : LV.hs 1 ((othersTo keep p us k).map intLV).length = LV.hs 1 ((othersTo keep p us (k + 1)).map intLV).length := by rw [hs]
      repeat ((conv => whnf); first | refine ⟨rfl, e, ?_⟩ | refine ⟨rfl, e3, ?_⟩ | refine ⟨rfl, rfl, ?_⟩)
      trivial
    rw [notB_f] at h2
    ((repeat ((conv => whnf); first | refine brT ?_ | refine brF ?_)); conv => whnf)
    (refine ⟨fun h3 => ?_, fun h3 => ?_⟩ <;> rw [h3])
    · rw [show otherL keep p u = [u.wife] by unfold otherL; rw [h2, h3]] at hs
      have e2 : ((othersTo keep p us k).map intLV ++ [LV.int .i64 u.wife]) = (othersTo keep p us (k + 1)).map intLV := by rw [hs, List.map_append]; rfl
      have e3 : LV.hs 1 ((othersTo keep p us k).map intLV ++ [LV.int .i64 u.wife]).length = LV.hs 1 ((othersTo keep p us (k + 1)).map intLV).length := by rw [e2]
      ((repeat ((conv => whnf); first | refine brT ?_ | refine brF ?_)); conv => whnf)
      refine ⟨rfl, rfl, ?_, ?_, ?_⟩
      · rw [e2]; unfold Go.maxLen; simp; omega
      · rw [e2]; simp; omega
      ((repeat ((conv => whnf); first | refine brT ?_ | refine brF ?_)); conv => whnf)
      refine round_endR [.old 0, .old 4] (k + 1) hlt (by omega) ⟨?_, ⟨rfl, rfl, rfl, congrArg (Blk.arr 3 1) e2, trivial⟩, rfl⟩
      repeat ((conv => whnf); first | refine ⟨rfl, e, ?_⟩ | refine ⟨rfl, e3, ?_⟩ | refine ⟨rfl, rfl, ?_⟩)
      trivial
    ((repeat ((conv => whnf); first | refine brT ?_ | refine brF ?_)); conv => whnf)
    (refine ⟨fun h4 => ?_, fun h4 => ?_⟩ <;> rw [h4])
    · rw [show otherL keep p u = [u.husband] by unfold otherL; rw [h2, h3, h4]] at hs
      have e2 : ((othersTo keep p us k).map intLV ++ [LV.int .i64 u.husband]) = (othersTo keep p us (k + 1)).map intLV := by rw [hs, List.map_append]; rfl
      have e3 : LV.hs 1 ((othersTo keep p us k).map intLV ++ [LV.int .i64 u.husband]).length = LV.hs 1 ((othersTo keep p us (k + 1)).map intLV).length := by rw [e2]
      ((repeat ((conv => whnf); first | refine brT ?_ | refine brF ?_)); conv => whnf)
      refine ⟨rfl, rfl, ?_, ?_, ?_⟩
      · rw [e2]; unfold Go.maxLen; simp; omega
      · rw [e2]; simp; omega
      ((repeat ((conv => whnf); first | refine brT ?_ | refine brF ?_)); conv => whnf)
      refine round_endR [.old 0, .old 4] (k + 1) hlt (by omega) ⟨?_, ⟨rfl, rfl, rfl, congrArg (Blk.arr 3 1) e2, trivial⟩, rfl⟩
      repeat ((conv => whnf); first | refine ⟨rfl, e, ?_⟩ | refine ⟨rfl, e3, ?_⟩ | refine ⟨rfl, rfl, ?_⟩)
      trivial
    · rw [show otherL keep p u = [] by unfold otherL; rw [h2, h3, h4], List.append_nil] at hs
      ((repeat ((conv => whnf); first | refine brT ?_ | refine brF ?_)); conv => whnf)
      refine round_endR [.old 0, .old 1] (k + 1) hlt (by omega) ⟨?_, ⟨rfl, rfl, rfl, congrArg (Blk.arr 3 1) (by rw [hs]), trivial⟩, rfl⟩
      have e3 : LV.hs 1 ((othersTo keep p us k).map intLV).length = LV.hs 1 ((othersTo keep p us (k + 1)).map intLV).length := by rw [hs]
      repeat ((conv => whnf); first | refine ⟨rfl, e, ?_⟩ | refine ⟨rfl, e3, ?_⟩ | refine ⟨rfl, rfl, ?_⟩)
      trivial
  · have h3 : k = us.length := by rw [ltI_f] at h1; simp at h1; omega
    subst h3
    ((repeat ((conv => whnf); first | refine brT ?_ | refine brF ?_)); conv => whnf)
    exact ⟨[.hs 0 ((othersTo keep p us us.length).map intLV).length], rfl, rfl, .inr ⟨[.old 1], ⟨rfl, rfl, trivial⟩, ⟨rfl, rfl, trivial⟩, rfl⟩⟩
theorem hasWives_spec (l : Lw) (ps : List Per) (us : List Uni) (F M : List Int) (a b : Nat) (y : Int) (hf : famOk ps us = true) :
    FSpec env.P 123 [cLV l ps us F M, mLV a b y] (.bool (leI l.wives ((othersTo (keepAt ps y) a us us.length).length : Int))) := by
  have h1 := ints_f (partnersAt_h ps us (a : Int) y hf)
  generalize othersTo (keepAt ps y) a us us.length = R at h1 ⊢
  have hR : ((R.map intLV).length : Int) = (R.length : Int) := by simp
  obtain ⟨d, c, aa, g, w, h, p, m⟩ := l
  unfold cLV upL
  refine FSpec_of_code env_ok (fn := Tryz.f123) Tryz.func123 rfl Tryz.call123 _ _ ?_
  ((repeat ((conv => whnf); first | refine brT ?_ | refine brF ?_)); conv => whnf)
  refine ⟨true, by kernel_rfl, ?_⟩
  ((repeat ((conv => whnf); first | refine brT ?_ | refine brF ?_)); conv => whnf)
  refine ⟨_, h1, ?_⟩
  rw [show flatT (rowOw R) = true from flat_ints R]
  ((repeat ((conv => whnf); first | refine brT ?_ | refine brF ?_)); conv => whnf)
  intro _
  ((repeat ((conv => whnf); first | refine brT ?_ | refine brF ?_)); conv => whnf)
  rw [hR]
  exact fin rfl
theorem hasHusbands_spec (l : Lw) (ps : List Per) (us : List Uni) (F M : List Int) (a b : Nat) (y : Int) (hf : famOk ps us = true) :
    FSpec env.P 124 [cLV l ps us F M, mLV a b y] (.bool (leI l.husbands ((othersTo (keepAt ps y) b us us.length).length : Int))) := by
  have h1 := ints_f (partnersAt_h ps us (b : Int) y hf)
  generalize othersTo (keepAt ps y) b us us.length = R at h1 ⊢
  have hR : ((R.map intLV).length : Int) = (R.length : Int) := by simp
  obtain ⟨d, c, aa, g, w, h, p, m⟩ := l
  unfold cLV upL
  refine FSpec_of_code env_ok (fn := Tryz.f124) Tryz.func124 rfl Tryz.call124 _ _ ?_
  ((repeat ((conv => whnf); first | refine brT ?_ | refine brF ?_)); conv => whnf)
  refine ⟨true, by kernel_rfl, ?_⟩
  ((repeat ((conv => whnf); first | refine brT ?_ | refine brF ?_)); conv => whnf)
  refine ⟨_, h1, ?_⟩
  rw [show flatT (rowOw R) = true from flat_ints R]
  ((repeat ((conv => whnf); first | refine brT ?_ | refine brF ?_)); conv => whnf)
  intro _
  ((repeat ((conv => whnf); first | refine brT ?_ | refine brF ?_)); conv => whnf)
  rw [hR]
  exact fin rfl
theorem lineal_spec (l : Lw) (ps : List Per) (us : List Uni) (F M : List Int) (a b : Nat) (y : Int) (hf : famOk ps us = true) (ha : a < ps.length) (hb : b < ps.length) :
    FSpec env.P 125 [cLV l ps us F M, mLV a b y] (.bool (leI 0 (upd ps a b) || leI 0 (upd ps b a))) := by
  have h1 := lead_spec (fam_pi hf) (fam_sh hf) ha hb
  have h2 := lead_spec (fam_pi hf) (fam_sh hf) hb ha
  obtain ⟨d, c, aa, g, w, h, p, m⟩ := l
  unfold cLV
  unfold upL at h1 h2 ⊢
  refine FSpec_of_code env_ok (fn := Tryz.f125) Tryz.func125 rfl Tryz.call125 _ _ ?_
  ((repeat ((conv => whnf); first | refine brT ?_ | refine brF ?_)); conv => whnf)
  refine ⟨_, h1, ?_⟩
  ((repeat ((conv => whnf); first | refine brT ?_ | refine brF ?_)); conv => whnf)
  (refine ⟨fun h => ?_, fun h => ?_⟩ <;> rw [h])
  · ((repeat ((conv => whnf); first | refine brT ?_ | refine brF ?_)); conv => whnf)
    exact fin rfl
  · ((repeat ((conv => whnf); first | refine brT ?_ | refine brF ?_)); conv => whnf)
    refine ⟨_, h2, ?_⟩
    ((repeat ((conv => whnf); first | refine brT ?_ | refine brF ?_)); conv => whnf)
    exact fin rfl
def withinB (n : Int) (L : List (Int × Int)) : Bool := match eqI n 0 with
  | true => false
  | false => lkB L && leI (civR L) n
theorem areWithin_spec (l : Lw) (ps : List Per) (us : List Uni) (F M : List Int) (n : Int) (x z : Int) (h : (hasP ps us x && hasP ps us z) = true) :
    FSpec env.P 155 [cLV l ps us F M, .int .i64 n, .int .i64 x, .int .i64 z] (.bool (withinB n (linksL ps us x z))) := by
  have h1 := climbLinks_f ps us x z h
  have h2 := leastLink_f _ (links_small ps us x z) (links_len ps us x z)
  obtain ⟨c1, c2, c3, c4⟩ := lkR_small (links_small ps us x z)
  have w1 : IntKind.i64.wrap ((lkR (linksL ps us x z)).1 + (lkR (linksL ps us x z)).2) = civR (linksL ps us x z) := wrap64 (by omega) (by omega)
  unfold withinB
  generalize civR (linksL ps us x z) = s at w1 ⊢
  generalize lkB (linksL ps us x z) = B at h2 ⊢
  generalize lkR (linksL ps us x z) = R at h2 w1
  generalize linksL ps us x z = L at h1 h2
  obtain ⟨d, c, aa, g, w, hh, p, m⟩ := l
  unfold cLV
  unfold upL at h1 ⊢
  refine FSpec_of_code env_ok (fn := Tryz.f155) Tryz.func155 rfl Tryz.call155 _ _ ?_
  ((repeat ((conv => whnf); first | refine brT ?_ | refine brF ?_)); conv => whnf)
  (refine ⟨fun g0 => ?_, fun g0 => ?_⟩ <;> rw [g0])
  · ((repeat ((conv => whnf); first | refine brT ?_ | refine brF ?_)); conv => whnf)
    exact fin rfl
  · ((repeat ((conv => whnf); first | refine brT ?_ | refine brF ?_)); conv => whnf)
    refine ⟨_, h1, ?_⟩
    ((repeat ((conv => whnf); first | refine brT ?_ | refine brF ?_)); conv => whnf)
    refine ⟨_, h2, ?_⟩
    ((repeat ((conv => whnf); first | refine brT ?_ | refine brF ?_)); conv => whnf)
    cases B
    · ((repeat ((conv => whnf); first | refine brT ?_ | refine brF ?_)); conv => whnf)
      exact fin rfl
    · ((repeat ((conv => whnf); first | refine brT ?_ | refine brF ?_)); conv => whnf)
      rw [w1]
      exact fin rfl
theorem withinDegree_spec (l : Lw) (ps : List Per) (us : List Uni) (F M : List Int) (a b : Nat) (y : Int) (h : (hasP ps us a && hasP ps us b) = true) :
    FSpec env.P 126 [cLV l ps us F M, mLV a b y] (.bool (withinB l.degree (linksL ps us a b))) := by
  have h1 := areWithin_spec l ps us F M l.degree a b h
  obtain ⟨d, c, aa, g, w, hh, p, m⟩ := l
  unfold cLV at h1 ⊢
  unfold upL at h1 ⊢
  refine FSpec_of_code env_ok (fn := Tryz.f126) Tryz.func126 rfl Tryz.call126 _ _ ?_
  ((repeat ((conv => whnf); first | refine brT ?_ | refine brF ?_)); conv => whnf)
  refine ⟨_, h1, ?_⟩
  ((repeat ((conv => whnf); first | refine brT ?_ | refine brF ?_)); conv => whnf)
  exact fin rfl
def canonB (n : Int) (L : List (Int × Int)) : Bool := match eqI n 0 with
  | true => false
  | false => lkB L && leI (cnR L) n
theorem withinCanon_spec (l : Lw) (ps : List Per) (us : List Uni) (F M : List Int) (a b : Nat) (y : Int) (h : (hasP ps us a && hasP ps us b) = true) :
    FSpec env.P 127 [cLV l ps us F M, mLV a b y] (.bool (canonB l.canon (linksL ps us a b))) := by
  have h1 := climbLinks_f ps us a b h
  have h2 := leastCanon_f _ (links_small ps us a b) (links_len ps us a b)
  unfold canonB
  generalize cnR (linksL ps us a b) = s at h2 ⊢
  generalize lkB (linksL ps us a b) = B at h2 ⊢
  generalize linksL ps us a b = L at h1 h2
  obtain ⟨d, c, aa, g, w, hh, p, m⟩ := l
  unfold cLV
  unfold upL at h1 ⊢
  refine FSpec_of_code env_ok (fn := Tryz.f127) Tryz.func127 rfl Tryz.call127 _ _ ?_
  ((repeat ((conv => whnf); first | refine brT ?_ | refine brF ?_)); conv => whnf)
  (refine ⟨fun g0 => ?_, fun g0 => ?_⟩ <;> rw [g0])
  · ((repeat ((conv => whnf); first | refine brT ?_ | refine brF ?_)); conv => whnf)
    exact fin rfl
  · ((repeat ((conv => whnf); first | refine brT ?_ | refine brF ?_)); conv => whnf)
    refine ⟨_, h1, ?_⟩
    ((repeat ((conv => whnf); first | refine brT ?_ | refine brF ?_)); conv => whnf)
    refine ⟨_, h2, ?_⟩
    ((repeat ((conv => whnf); first | refine brT ?_ | refine brF ?_)); conv => whnf)
    cases B
    · ((repeat ((conv => whnf); first | refine brT ?_ | refine brF ?_)); conv => whnf)
      exact fin rfl
    · ((repeat ((conv => whnf); first | refine brT ?_ | refine brF ?_)); conv => whnf)
      exact fin rfl
theorem ints_get {F : List Int} {a : Nat} (h : a < F.length) : (F.map intLV)[a]? = some (intLV F[a]) := by
  rw [List.getElem?_map, List.getElem?_eq_getElem h]; rfl
theorem patri_spec (l : Lw) (ps : List Per) (us : List Uni) (F M : List Int) (a b : Nat) (y : Int) (ha : a < F.length) (hb : b < F.length) :
    FSpec env.P 128 [cLV l ps us F M, mLV a b y] (.bool (l.patri && eqI F[a] F[b])) := by
  have h1 := ints_get ha
  have h2 := ints_get hb
  generalize F[a] = x at h1 ⊢
  generalize F[b] = z at h2 ⊢
  obtain ⟨d, c, aa, g, w, hh, p, m⟩ := l
  unfold cLV upL rowSl
  refine FSpec_of_code env_ok (fn := Tryz.f128) Tryz.func128 rfl Tryz.call128 _ _ ?_
  ((repeat ((conv => whnf); first | refine brT ?_ | refine brF ?_)); conv => whnf)
  refine ⟨true, by kernel_rfl, ?_⟩
  ((repeat ((conv => whnf); first | refine brT ?_ | refine brF ?_)); conv => whnf)
  cases p
  · ((repeat ((conv => whnf); first | refine brT ?_ | refine brF ?_)); conv => whnf)
    exact fin rfl
  · ((repeat ((conv => whnf); first | refine brT ?_ | refine brF ?_)); conv => whnf)
    refine ⟨a, _, rfl, h1, rfl, ?_⟩
    ((repeat ((conv => whnf); first | refine brT ?_ | refine brF ?_)); conv => whnf)
    refine ⟨b, _, rfl, h2, rfl, ?_⟩
    ((repeat ((conv => whnf); first | refine brT ?_ | refine brF ?_)); conv => whnf)
    exact fin rfl
theorem matri_spec (l : Lw) (ps : List Per) (us : List Uni) (F M : List Int) (a b : Nat) (y : Int) (ha : a < M.length) (hb : b < M.length) :
    FSpec env.P 129 [cLV l ps us F M, mLV a b y] (.bool (l.matri && eqI M[a] M[b])) := by
  have h1 := ints_get ha
  have h2 := ints_get hb
  generalize M[a] = x at h1 ⊢
  generalize M[b] = z at h2 ⊢
  obtain ⟨d, c, aa, g, w, hh, p, m⟩ := l
  unfold cLV upL rowSl
  refine FSpec_of_code env_ok (fn := Tryz.f129) Tryz.func129 rfl Tryz.call129 _ _ ?_
  ((repeat ((conv => whnf); first | refine brT ?_ | refine brF ?_)); conv => whnf)
  refine ⟨true, by kernel_rfl, ?_⟩
  ((repeat ((conv => whnf); first | refine brT ?_ | refine brF ?_)); conv => whnf)
  cases m
  · ((repeat ((conv => whnf); first | refine brT ?_ | refine brF ?_)); conv => whnf)
    exact fin rfl
  · ((repeat ((conv => whnf); first | refine brT ?_ | refine brF ?_)); conv => whnf)
    refine ⟨a, _, rfl, h1, rfl, ?_⟩
    ((repeat ((conv => whnf); first | refine brT ?_ | refine brF ?_)); conv => whnf)
    refine ⟨b, _, rfl, h2, rfl, ?_⟩
    ((repeat ((conv => whnf); first | refine brT ?_ | refine brF ?_)); conv => whnf)
    exact fin rfl
end Go.Proofs.YtgkjafmmekjjlaaGreat
