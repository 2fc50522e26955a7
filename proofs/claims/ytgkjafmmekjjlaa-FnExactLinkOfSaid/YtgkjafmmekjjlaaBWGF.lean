/- Contracts of functions of the program and of its model, told over readings. -/
import Derived.Test.YtgkjafmmekjjlaaBWGE
import Derived.Test.YtgkjafmmekjjlaaBWGD
import Derived.Test.YtgkjafmmekjjlaaBLgMF
import Derived.Test.YtgkjafmmekjjlaaBWGC
import Derived.Test.YtgkjafmmekjjlaaBLgRN
import Derived.Test.YtgkjafmmekjjlaaBLgRM
namespace Go.Proofs.Ytgkjafmmekjjlaa
open Go.Lg Go.Pm
set_option maxHeartbeats 3200000
set_option maxRecDepth 10000
set_option linter.unusedVariables false
set_option linter.unusedSimpArgs false

theorem links_small (ps : List Per) (us : List Uni) (a b : Int) : ∀ p ∈ linksL ps us a b, smallP p := fun p hp => by
  unfold linksL at hp
  obtain ⟨q, hq, rfl⟩ := List.mem_map.1 hp
  have hc := com_pos (com_q q hq)
  have hl := com_lt q hq
  unfold comL at hq
  split at hq
  · rename_i h
    obtain ⟨h1, h2⟩ := Bool.and_eq_true_iff.1 h
    obtain ⟨a0, al, _, hpi⟩ := hasP_in h1
    obtain ⟨b0, bl, _, _⟩ := hasP_in h2
    have hsh := fam_sh (hasP_lt h1).2.2
    exact ⟨hc.1, (upd_small hpi hsh al hl).2, hc.2, (upd_small hpi hsh bl hl).2⟩
  · simp at hq
theorem links_len (ps : List Per) (us : List Uni) (a b : Int) : (linksL ps us a b).length ≤ 40 := by
  unfold linksL
  rw [List.length_map]
  unfold comL
  split
  · rename_i h
    have := fam_40 (hasP_lt (Bool.and_eq_true_iff.1 h).1).2.2
    exact Nat.le_trans (wantL_len _ _) this
  · simp
/-- The least link, and whether there is one. -/
def lkB (L : List (Int × Int)) : Bool := notB (eqI (L.length : Int) 0)
def lkR (L : List (Int × Int)) : Int × Int := match eqI (L.length : Int) 0 with | true => (0, 0) | false => bstL L L.length
theorem leastLink_f (L : List (Int × Int)) (hs : ∀ p ∈ L, smallP p) (hm : L.length ≤ 40) : FSpec env.P 69 [.sl (L.map lkLV)] (.tup [lkLV (lkR L), .bool (lkB L)]) := by
  refine FSpec_of_code env_ok (fn := Try.f69) Try.func69 rfl Try.call69 _ _ ?_
  have hL : (L.map lkLV).length = L.length := List.length_map ..
  unfold lkR lkB
  ((repeat ((conv => whnf); first | refine brT ?_ | refine brF ?_)); conv => whnf)
  intro _
  ((repeat ((conv => whnf); first | refine brT ?_ | refine brF ?_)); conv => whnf)
  rw [hL]
  cases h : eqI (L.length : Int) 0
  · have h0 : 0 < L.length := by rw [eqI_f] at h; omega
    ((repeat ((conv => whnf); first | refine brT ?_ | refine brF ?_)); conv => whnf)
    refine ⟨_, minFunc_spec L hs h0 hm, ?_⟩
    ((repeat ((conv => whnf); first | refine brT ?_ | refine brF ?_)); conv => whnf)
    refine ⟨_, rfl, rfl, ?_⟩
    simp [lkLV, exW, exsW, notB]
    exact ⟨rfl, List.nodup_nil⟩
  · ((repeat ((conv => whnf); first | refine brT ?_ | refine brF ?_)); conv => whnf)
    refine ⟨_, rfl, rfl, ?_⟩
    simp [lkLV, exW, exsW, notB]
    exact ⟨rfl, List.nodup_nil⟩
theorem linkOf_impl (ps : List Per) (us : List Uni) (a b : Int) : FSpec env.P 22 [famLV ps us, .int .i64 a, .int .i64 b] (.tup [.int .i64 (lkR (linksL ps us a b)).1, .int .i64 (lkR (linksL ps us a b)).2, .bool (lkB (linksL ps us a b))]) := by
  refine FSpec_of_code env_ok (fn := Try.f22) Try.func22 rfl Try.call22 _ _ ?_
  have hw := linksOf_f ps us a b
  have hl := leastLink_f _ (links_small ps us a b) (links_len ps us a b)
  generalize linksL ps us a b = L at hw hl ⊢
  generalize lkR L = c at hl ⊢
  generalize lkB L = d at hl ⊢
  ((repeat ((conv => whnf); first | refine brT ?_ | refine brF ?_)); conv => whnf)
  refine ⟨_, hw, ?_⟩
  ((repeat ((conv => whnf); first | refine brT ?_ | refine brF ?_)); conv => whnf)
  refine ⟨_, hl, ?_⟩
  ((repeat ((conv => whnf); first | refine brT ?_ | refine brF ?_)); conv => whnf)
  refine ⟨true, by kernel_rfl, ?_⟩
  ((repeat ((conv => whnf); first | refine brT ?_ | refine brF ?_)); conv => whnf)
  (repeat (first | exact List.nodup_nil | refine ⟨rfl, ?_⟩))
theorem linkOf_spec (ps : List Per) (us : List Uni) (a b : Int) : FSpec env.P 21 [famLV ps us, .int .i64 a, .int .i64 b] (.tup [.int .i64 (lkR (linksL ps us a b)).1, .int .i64 (lkR (linksL ps us a b)).2, .bool (lkB (linksL ps us a b))]) := by
  refine FSpec_of_code env_ok (fn := Try.f21) Try.func21 rfl Try.call21 _ _ ?_
  have hs := links_small ps us a b
  have hcl := com_lt (ps := ps) (us := us) (a := a) (b := b)
  have hw := nats_f (commons_spec ps us a b)
  have hm := links_len ps us a b
  have hF : 0 < (comL ps us a b).length → (∃ n : Nat, a = n ∧ n < ps.length) ∧ (∃ m : Nat, b = m ∧ m < ps.length) ∧ ps.length ≤ 40 ∧ parsIn ps ∧ shallow (depths ps) = true := fun h0 => by
    unfold comL at h0
    split at h0
    · rename_i h
      obtain ⟨h1, h2⟩ := Bool.and_eq_true_iff.1 h
      obtain ⟨a0, al, hl, hpi⟩ := hasP_in h1
      obtain ⟨b0, bl, _, _⟩ := hasP_in h2
      exact ⟨⟨a.toNat, by omega, al⟩, ⟨b.toNat, by omega, bl⟩, hl, hpi, fam_sh (hasP_lt h1).2.2⟩
    · simp at h0
  unfold linksL at hs hm ⊢
  generalize comL ps us a b = C at hcl hw hF hs hm ⊢
  rw [List.length_map] at hm
  have hC : (C.map natLV).length = C.length := List.length_map ..
  have hm40 : C.length ≤ Go.maxLen := by unfold Go.maxLen; omega
  have hLg : ∀ (k : Nat) (h : k < C.length), (C.map (lkOf ps a.toNat b.toNat))[k]? = some (lkOf ps a.toNat b.toNat C[k]) := fun k h => by rw [List.getElem?_map, List.getElem?_eq_getElem h]; rfl
  have hLl : (C.map (lkOf ps a.toNat b.toNat)).length = C.length := List.length_map ..
  generalize C.map (lkOf ps a.toNat b.toNat) = L at hs hLg hLl ⊢
  unfold lkR lkB
  ((repeat ((conv => whnf); first | refine brT ?_ | refine brF ?_)); conv => whnf)
  refine ⟨_, hw, ?_⟩
  ((repeat ((conv => whnf); first | refine brT ?_ | refine brF ?_)); conv => whnf)
  intro _
  ((repeat ((conv => whnf); first | refine brT ?_ | refine brF ?_)); conv => whnf)
  rw [hC]
  refine loop_rule (α := Nat) (fun k => [(9, .int .i64 (bstL L k).1), (10, .int .i64 (bstL L k).2), (20, .int .i64 (k : Int))]) (fun k => [.box (famLV ps us)]) (fun k => C.length - k) (fun k => k ≤ C.length) 0 (Nat.zero_le _) ?_ ?_
  · refine ⟨?_, ⟨rfl, trivial⟩, rfl, rfl⟩
    ((repeat ((conv => whnf); refine ⟨rfl, ?_⟩)); trivial)
  intro k hk
  generalize hK : kk _ = KK
  ((repeat ((conv => whnf); first | refine brT ?_ | refine brF ?_)); conv => whnf)
  (refine ⟨fun g1 => ?_, fun g1 => ?_⟩ <;> rw [g1])
  · have hlt : k < C.length := by rw [ltI_t] at g1; omega
    have e := step_i hlt hm40
    obtain ⟨⟨n, rfl, al⟩, ⟨m, rfl, bl⟩, hl, hpi, hsh⟩ := hF (by omega)
    have hq := hcl _ (List.getElem_mem hlt)
    have hge := natl_get hlt
    have hn0 : bstL L (k + 1) = stpK (bstL L k) (lkOf ps (n : Int).toNat (m : Int).toNat C[k]) := by rw [bstL, hLg k hlt]
    have hp := hs _ (List.mem_of_getElem? (hLg k hlt))
    generalize C[k] = q at hq hge hn0 hp
    rw [Int.toNat_natCast, Int.toNat_natCast] at hn0 hp
    have hc : (k = 0) ∨ smallP (bstL L k) := by
      rcases Nat.eq_zero_or_pos k with h | h
      · exact .inl h
      · right
        have := bst_small hs (k - 1) (by omega)
        rwa [Nat.sub_add_cancel h] at this
    obtain ⟨p1, p2, p3, p4⟩ := hp
    change 0 ≤ upd ps n q at p1
    change upd ps n q ≤ 10 at p2
    change 0 ≤ upd ps m q at p3
    change upd ps m q ≤ 10 at p4
    ((repeat ((conv => whnf); first | refine brT ?_ | refine brF ?_)); conv => whnf)
    refine ⟨k, .int .i64 (q : Int), rfl, hge, rfl, ?_⟩
    ((repeat ((conv => whnf); first | refine brT ?_ | refine brF ?_)); conv => whnf)
    refine ⟨_, up_f ps us hl hpi hsh n al, ?_⟩
    ((repeat ((conv => whnf); first | refine brT ?_ | refine brF ?_)); conv => whnf)
    refine ⟨q, intLV (upd ps n q), rfl, upRow_get hq, rfl, ?_⟩
    ((repeat ((conv => whnf); first | refine brT ?_ | refine brF ?_)); conv => whnf)
    refine ⟨_, up_f ps us hl hpi hsh m bl, ?_⟩
    ((repeat ((conv => whnf); first | refine brT ?_ | refine brF ?_)); conv => whnf)
    refine ⟨q, intLV (upd ps m q), rfl, upRow_get hq, rfl, ?_⟩
    ((repeat ((conv => whnf); first | refine brT ?_ | refine brF ?_)); conv => whnf)
    have ep : lkOf ps n m q = (upd ps n q, upd ps m q) := rfl
    rw [ep] at hn0
    generalize upd ps n q = x at p1 p2 hn0
    generalize upd ps m q = y at p3 p4 hn0
    rcases hc with hc | hc
    · have h9 : ltI (bstL L k).1 0 = true := by subst hc; rw [ltI_t]; show (-1 : Int) < 0; omega
      have hn : (x, y) = bstL L (k + 1) := by rw [hn0]; unfold stpK; rw [h9]; rfl
      rw [h9]
      ((repeat ((conv => whnf); first | refine brT ?_ | refine brF ?_)); conv => whnf)
      subst hK
      refine round_end (k + 1) hlt (by omega) ⟨?_, ⟨rfl, trivial⟩, rfl, rfl⟩
      repeat ((conv => whnf); first | refine ⟨e, ?_⟩ | refine ⟨congrArg (fun q : Int × Int => LV.int .i64 q.1) hn, ?_⟩ | refine ⟨congrArg (fun q : Int × Int => LV.int .i64 q.2) hn, ?_⟩ | refine ⟨rfl, ?_⟩)
      trivial
    · generalize bstL L k = c at hc hn0 ⊢
      obtain ⟨c1, c2, c3, c4⟩ := hc
      have h9 : ltI c.1 0 = false := by rw [ltI_f]; exact c1
      have w1 : IntKind.i64.wrap (x + y) = x + y := wrap64 (by omega) (by omega)
      have w2 : IntKind.i64.wrap (c.1 + c.2) = c.1 + c.2 := wrap64 (by omega) (by omega)
      rw [h9]
      ((repeat ((conv => whnf); first | refine brT ?_ | refine brF ?_)); conv => whnf)
      rw [w1, w2]
      (refine ⟨fun g2 => ?_, fun g2 => ?_⟩ <;> rw [g2])
      · have hn : (x, y) = bstL L (k + 1) := by rw [hn0]; unfold stpK lessL; rw [h9, g2]; rfl
        ((repeat ((conv => whnf); first | refine brT ?_ | refine brF ?_)); conv => whnf)
        subst hK
        refine round_end (k + 1) hlt (by omega) ⟨?_, ⟨rfl, trivial⟩, rfl, rfl⟩
        repeat ((conv => whnf); first | refine ⟨e, ?_⟩ | refine ⟨congrArg (fun q : Int × Int => LV.int .i64 q.1) hn, ?_⟩ | refine ⟨congrArg (fun q : Int × Int => LV.int .i64 q.2) hn, ?_⟩ | refine ⟨rfl, ?_⟩)
        trivial
      · ((repeat ((conv => whnf); first | refine brT ?_ | refine brF ?_)); conv => whnf)
        rw [w1, w2]
        (refine ⟨fun g3 => ?_, fun g3 => ?_⟩ <;> rw [g3])
        · ((repeat ((conv => whnf); first | refine brT ?_ | refine brF ?_)); conv => whnf)
          (refine ⟨fun g4 => ?_, fun g4 => ?_⟩ <;> rw [g4])
          · have hn : (x, y) = bstL L (k + 1) := by rw [hn0]; unfold stpK lessL; rw [h9, g2, g3, g4]; rfl
            ((repeat ((conv => whnf); first | refine brT ?_ | refine brF ?_)); conv => whnf)
            subst hK
            refine round_end (k + 1) hlt (by omega) ⟨?_, ⟨rfl, trivial⟩, rfl, rfl⟩
            repeat ((conv => whnf); first | refine ⟨e, ?_⟩ | refine ⟨congrArg (fun q : Int × Int => LV.int .i64 q.1) hn, ?_⟩ | refine ⟨congrArg (fun q : Int × Int => LV.int .i64 q.2) hn, ?_⟩ | refine ⟨rfl, ?_⟩)
            trivial
          · ((repeat ((conv => whnf); first | refine brT ?_ | refine brF ?_)); conv => whnf)
            (refine ⟨fun g5 => ?_, fun g5 => ?_⟩ <;> rw [g5])
            · ((repeat ((conv => whnf); first | refine brT ?_ | refine brF ?_)); conv => whnf)
              (refine ⟨fun g6 => ?_, fun g6 => ?_⟩ <;> rw [g6])
              · have hn : (x, y) = bstL L (k + 1) := by rw [hn0]; unfold stpK lessL; rw [h9, g2, g3, g4, g5, g6]; rfl
                ((repeat ((conv => whnf); first | refine brT ?_ | refine brF ?_)); conv => whnf)
                subst hK
                refine round_end (k + 1) hlt (by omega) ⟨?_, ⟨rfl, trivial⟩, rfl, rfl⟩
                repeat ((conv => whnf); first | refine ⟨e, ?_⟩ | refine ⟨congrArg (fun q : Int × Int => LV.int .i64 q.1) hn, ?_⟩ | refine ⟨congrArg (fun q : Int × Int => LV.int .i64 q.2) hn, ?_⟩ | refine ⟨rfl, ?_⟩)
                trivial
              · have hn : c = bstL L (k + 1) := by rw [hn0]; unfold stpK lessL; rw [h9, g2, g3, g4, g5, g6]; rfl
                ((repeat ((conv => whnf); first | refine brT ?_ | refine brF ?_)); conv => whnf)
                subst hK
                refine round_end (k + 1) hlt (by omega) ⟨?_, ⟨rfl, trivial⟩, rfl, rfl⟩
                repeat ((conv => whnf); first | refine ⟨e, ?_⟩ | refine ⟨congrArg (fun q : Int × Int => LV.int .i64 q.1) hn, ?_⟩ | refine ⟨congrArg (fun q : Int × Int => LV.int .i64 q.2) hn, ?_⟩ | refine ⟨rfl, ?_⟩)
                trivial
            · have hn : c = bstL L (k + 1) := by rw [hn0]; unfold stpK lessL; rw [h9, g2, g3, g4, g5]; rfl
              ((repeat ((conv => whnf); first | refine brT ?_ | refine brF ?_)); conv => whnf)
              subst hK
              refine round_end (k + 1) hlt (by omega) ⟨?_, ⟨rfl, trivial⟩, rfl, rfl⟩
              repeat ((conv => whnf); first | refine ⟨e, ?_⟩ | refine ⟨congrArg (fun q : Int × Int => LV.int .i64 q.1) hn, ?_⟩ | refine ⟨congrArg (fun q : Int × Int => LV.int .i64 q.2) hn, ?_⟩ | refine ⟨rfl, ?_⟩)
              trivial
        · have hn : c = bstL L (k + 1) := by rw [hn0]; unfold stpK lessL; rw [h9, g2, g3]; rfl
          ((repeat ((conv => whnf); first | refine brT ?_ | refine brF ?_)); conv => whnf)
          subst hK
          refine round_end (k + 1) hlt (by omega) ⟨?_, ⟨rfl, trivial⟩, rfl, rfl⟩
          repeat ((conv => whnf); first | refine ⟨e, ?_⟩ | refine ⟨congrArg (fun q : Int × Int => LV.int .i64 q.1) hn, ?_⟩ | refine ⟨congrArg (fun q : Int × Int => LV.int .i64 q.2) hn, ?_⟩ | refine ⟨rfl, ?_⟩)
          trivial
  · have h4 : k = C.length := by rw [ltI_f] at g1; omega
    subst h4
    subst hK
    rw [← hLl]
    cases h : eqI (L.length : Int) 0
    · have h0 : 0 < L.length := by rw [eqI_f] at h; omega
      have hb := bst_small hs (L.length - 1) (by omega)
      rw [Nat.sub_add_cancel h0] at hb
      ((repeat ((conv => whnf); first | refine brT ?_ | refine brF ?_)); conv => whnf)
      rw [show ltI (bstL L L.length).1 0 = false by rw [ltI_f]; exact hb.1]
      ((repeat ((conv => whnf); first | refine brT ?_ | refine brF ?_)); conv => whnf)
      (repeat (first | exact List.nodup_nil | refine ⟨rfl, ?_⟩ | refine ⟨by simp [notB], ?_⟩))
    · have h0 : L.length = 0 := by rw [eqI_t] at h; omega
      ((repeat ((conv => whnf); first | refine brT ?_ | refine brF ?_)); conv => whnf)
      rw [show ltI (bstL L L.length).1 0 = true by rw [h0, ltI_t]; show (-1 : Int) < 0; omega]
      ((repeat ((conv => whnf); first | refine brT ?_ | refine brF ?_)); conv => whnf)
      (repeat (first | exact List.nodup_nil | refine ⟨rfl, ?_⟩ | refine ⟨by simp [notB], ?_⟩))
end Go.Proofs.Ytgkjafmmekjjlaa


namespace Go.Proofs.Ytgkjafmmekjjlaa
open Go.Lg Go.Pm
set_option maxHeartbeats 3200000
set_option maxRecDepth 10000
set_option linter.unusedVariables false
set_option linter.unusedSimpArgs false

theorem lkR_small {L : List (Int × Int)} (h : ∀ p ∈ L, smallP p) : smallP (lkR L) := by
  unfold lkR
  cases e : eqI (L.length : Int) 0 with
  | true => exact ⟨Int.le_refl _, show (0 : Int) ≤ 10 by omega, Int.le_refl _, show (0 : Int) ≤ 10 by omega⟩
  | false =>
    have h0 : 0 < L.length := by rw [eqI_f] at e; omega
    have := bst_small h (L.length - 1) (by omega)
    rwa [Nat.sub_add_cancel h0] at this
def civR (L : List (Int × Int)) : Int := (lkR L).1 + (lkR L).2
theorem civil_impl (ps : List Per) (us : List Uni) (a b : Int) : FSpec env.P 24 [famLV ps us, .int .i64 a, .int .i64 b] (.tup [.int .i64 (civR (linksL ps us a b)), .bool (lkB (linksL ps us a b))]) := by
  refine FSpec_of_code env_ok (fn := Try.f24) Try.func24 rfl Try.call24 _ _ ?_
  have hw := linkOf_impl ps us a b
  obtain ⟨c1, c2, c3, c4⟩ := lkR_small (links_small ps us a b)
  have w1 : IntKind.i64.wrap ((lkR (linksL ps us a b)).1 + (lkR (linksL ps us a b)).2) = civR (linksL ps us a b) := wrap64 (by omega) (by omega)
  generalize linksL ps us a b = L at hw w1 ⊢
  ((repeat ((conv => whnf); first | refine brT ?_ | refine brF ?_)); conv => whnf)
  refine ⟨_, hw, ?_⟩
  ((repeat ((conv => whnf); first | refine brT ?_ | refine brF ?_)); conv => whnf)
  rw [w1]
  (repeat (first | exact List.nodup_nil | refine ⟨rfl, ?_⟩))
theorem civil_spec (ps : List Per) (us : List Uni) (a b : Int) : FSpec env.P 23 [famLV ps us, .int .i64 a, .int .i64 b] (.tup [.int .i64 (civR (linksL ps us a b)), .bool (lkB (linksL ps us a b))]) := by
  refine FSpec_of_code env_ok (fn := Try.f23) Try.func23 rfl Try.call23 _ _ ?_
  have hw := linkOf_spec ps us a b
  obtain ⟨c1, c2, c3, c4⟩ := lkR_small (links_small ps us a b)
  have w1 : IntKind.i64.wrap ((lkR (linksL ps us a b)).1 + (lkR (linksL ps us a b)).2) = civR (linksL ps us a b) := wrap64 (by omega) (by omega)
  generalize linksL ps us a b = L at hw w1 ⊢
  ((repeat ((conv => whnf); first | refine brT ?_ | refine brF ?_)); conv => whnf)
  refine ⟨_, hw, ?_⟩
  ((repeat ((conv => whnf); first | refine brT ?_ | refine brF ?_)); conv => whnf)
  rw [w1]
  (repeat (first | exact List.nodup_nil | refine ⟨rfl, ?_⟩))
/-! ### The canon degree -/
def lkMx (p : Int × Int) : Int := maxI p.1 p.2
theorem mx_small {p : Int × Int} (h : smallP p) : 0 ≤ lkMx p ∧ lkMx p ≤ 10 := by
  obtain ⟨h1, h2, h3, h4⟩ := h
  exact ⟨le_maxI h1, maxI_le h2 h4⟩
def cnS (c m : Int) : Int := match ltI c 0 || ltI m c with | true => m | false => c
def cnL (L : List (Int × Int)) : Nat → Int
  | 0 => -1
  | k + 1 => match L[k]? with | some p => cnS (cnL L k) (lkMx p) | none => cnL L k
theorem cn_succ {L : List (Int × Int)} {k : Nat} (h : k < L.length) : cnL L (k + 1) = cnS (cnL L k) (lkMx L[k]) := by simp [cnL, h]
theorem cn_pos {L : List (Int × Int)} (hL : ∀ p ∈ L, smallP p) : ∀ k, k + 1 ≤ L.length → 0 ≤ cnL L (k + 1)
  | 0, h => by
    rw [cn_succ (by omega)]
    have := mx_small (hL _ (List.getElem_mem (show 0 < L.length by omega)))
    unfold cnS; split
    · exact this.1
    · rename_i hh; simp [cnL, ltI] at hh
  | k + 1, h => by
    rw [cn_succ (by omega)]
    have := mx_small (hL _ (List.getElem_mem (show k + 1 < L.length by omega)))
    unfold cnS; split
    · exact this.1
    · exact cn_pos hL k (by omega)
theorem cn_one {L : List (Int × Int)} (h : 0 < L.length) : cnL L 1 = lkMx L[0] := by
  rw [cn_succ h]; unfold cnS; rw [show ltI (cnL L 0) 0 = true by rw [ltI_t]; show (-1 : Int) < 0; omega]; rfl
theorem canon1_spec (p : Int × Int) : FSpec env.P 117 [lkLV p] (.int .i64 (lkMx p)) := by
  refine FSpec_of_code env_ok (fn := Try.f117) Try.func117 rfl Try.call117 _ _ ?_
  ((repeat ((conv => whnf); first | refine brT ?_ | refine brF ?_)); conv => whnf)
  exact ⟨rfl, rfl, List.nodup_nil⟩
theorem mapMx (L : List (Int × Int)) (hb : L.length ≤ 40) : FSpec env.P 116 [.sl (L.map lkLV), .clos 117 []] (rowOw (L.map lkMx)) := by
  refine FSpec_of_code env_ok (fn := Try.f116) Try.func116 rfl Try.call116 _ _ ?_
  have hL : (L.map lkLV).length = L.length := List.length_map ..
  have hp' : L.length ≤ Go.maxLen := by unfold Go.maxLen; omega
  ((repeat ((conv => whnf); first | refine brT ?_ | refine brF ?_)); conv => whnf)
  intro hp
  ((repeat ((conv => whnf); first | refine brT ?_ | refine brF ?_)); conv => whnf)
  rw [hL]
  refine ⟨L.length, rfl, rfl, by show 8 * L.length ≤ _; omega, hp', rfl, by decide, ?_⟩
  ((repeat ((conv => whnf); first | refine brT ?_ | refine brF ?_)); conv => whnf)
  intro _
  ((repeat ((conv => whnf); first | refine brT ?_ | refine brF ?_)); conv => whnf)
  rw [hL]
  refine loop_ruleR (α := Nat) [.old 0] (fun k => [(13, .int .i64 (k : Int)), (7, .undef)]) (fun k => [.arr 3 1 (fillLV (fun p : Int × Int => intLV (lkMx p)) (intLV 0) L k)]) (fun k => L.length - k) (fun k => k ≤ L.length) 0 (Nat.zero_le _) ?_ ?_
  · refine ⟨?_, ⟨rfl, by simp [fillLV, intLV]; rfl, trivial⟩, rfl⟩
    ((repeat ((conv => whnf); refine ⟨rfl, rfl, ?_⟩)); trivial)
  intro k hk
  generalize hK : kk _ = KK
  ((repeat ((conv => whnf); first | refine brT ?_ | refine brF ?_)); conv => whnf)
  (refine ⟨fun h1 => ?_, fun h1 => ?_⟩ <;> rw [h1])
  · have hlt : k < L.length := by rw [ltI_t] at h1; omega
    have e := step_i hlt hp'
    have hget : (L.map lkLV)[k]? = some (lkLV L[k]) := by rw [List.getElem?_map, List.getElem?_eq_getElem hlt]; rfl
    have hfs := fill_set (lv := fun p : Int × Int => intLV (lkMx p)) (z := intLV 0) hlt
    have hfg := fill_get (lv := fun p : Int × Int => intLV (lkMx p)) (z := intLV 0) hlt
    generalize L[k] = p at hget hfs
    ((repeat ((conv => whnf); first | refine brT ?_ | refine brF ?_)); conv => whnf)
    refine ⟨k, lkLV p, rfl, hget, rfl, ?_⟩
    ((repeat ((conv => whnf); first | refine brT ?_ | refine brF ?_)); conv => whnf)
    refine ⟨_, canon1_spec p, ?_⟩
    ((repeat ((conv => whnf); first | refine brT ?_ | refine brF ?_)); conv => whnf)
    refine ⟨(fill_len hk).symm, rfl, k, rfl, by rw [fill_len hk]; exact hlt, ?_⟩
    ((repeat ((conv => whnf); first | refine brT ?_ | refine brF ?_)); conv => whnf)
    refine ⟨(fill_len hk).symm, k, [], intLV 0, rfl, by simp [getP, hfg], rfl, rfl, rfl, fillLV (fun p : Int × Int => intLV (lkMx p)) (intLV 0) L (k + 1), by rw [hfg]; exact hfs, ?_⟩
    ((repeat ((conv => whnf); first | refine brT ?_ | refine brF ?_)); conv => whnf)
    subst hK
    refine round_endR [.old 0] (k + 1) hlt (by omega) ⟨?_, ⟨rfl, rfl, trivial⟩, rfl⟩
    ((repeat ((conv => whnf); first | refine ⟨rfl, e, ?_⟩ | refine ⟨rfl, rfl, ?_⟩)); trivial)
  · have h4 : k = L.length := by rw [ltI_f] at h1; omega
    subst h4
    subst hK
    ((repeat ((conv => whnf); first | refine brT ?_ | refine brF ?_)); conv => whnf)
    exact ⟨(fill_len (Nat.le_refl _)).symm, rfl, rfl, by rw [fill_all, List.map_map]; rfl, by simp⟩
theorem minInt_spec (L : List (Int × Int)) (hs : ∀ p ∈ L, smallP p) (h0 : 0 < L.length) (hm : L.length ≤ 40) : FSpec env.P 115 [rowSl (L.map lkMx)] (.int .i64 (cnL L L.length)) := by
  refine FSpec_of_code env_ok (fn := Try.f115) Try.func115 rfl Try.call115 _ _ ?_
  have hLm : ((L.map lkMx).map intLV).length = L.length := by simp
  have hm40 : L.length ≤ Go.maxLen := by unfold Go.maxLen; omega
  have hget : ∀ (k : Nat) (h : k < L.length), ((L.map lkMx).map intLV)[k]? = some (intLV (lkMx L[k])) := fun k h => by rw [List.getElem?_map, List.getElem?_map, List.getElem?_eq_getElem h]; rfl
  ((repeat ((conv => whnf); first | refine brT ?_ | refine brF ?_)); conv => whnf)
  intro _
  ((repeat ((conv => whnf); first | refine brT ?_ | refine brF ?_)); conv => whnf)
  rw [hLm, show ltI (L.length : Int) 1 = false by rw [ltI_f]; omega]
  ((repeat ((conv => whnf); first | refine brT ?_ | refine brF ?_)); conv => whnf)
  refine ⟨0, intLV (lkMx L[0]), rfl, hget 0 h0, rfl, ?_⟩
  ((repeat ((conv => whnf); first | refine brT ?_ | refine brF ?_)); conv => whnf)
  refine loop_rule (α := Nat) (fun k => [(3, .int .i64 (cnL L k)), (4, .int .i64 (k : Int))]) (fun k => []) (fun k => L.length - k) (fun k => 1 ≤ k ∧ k ≤ L.length) 1 ⟨Nat.le_refl _, h0⟩ ?_ ?_
  · refine ⟨?_, trivial, rfl, rfl⟩
    have e0 : LV.int .i64 (lkMx L[0]) = LV.int .i64 (cnL L 1) := by rw [cn_one h0]
    ((repeat ((conv => whnf); first | refine ⟨e0, ?_⟩ | refine ⟨rfl, ?_⟩)); trivial)
  rintro k ⟨hk1, hk⟩
  have hc := cn_pos hs (k - 1) (by omega)
  rw [Nat.sub_add_cancel hk1] at hc
  ((repeat ((conv => whnf); first | refine brT ?_ | refine brF ?_)); conv => whnf)
  intro _
  ((repeat ((conv => whnf); first | refine brT ?_ | refine brF ?_)); conv => whnf)
  rw [hLm]
  (refine ⟨fun g1 => ?_, fun g1 => ?_⟩ <;> rw [g1])
  · have hlt : k < L.length := by rw [ltI_t] at g1; omega
    have e := step_i hlt hm40
    have hg := hget k hlt
    have hn := cn_succ hlt
    unfold cnS at hn
    rw [show ltI (cnL L k) 0 = false by rw [ltI_f]; exact hc, Bool.false_or] at hn
    generalize lkMx L[k] = m at hg hn
    have hmn : LV.int .i64 (minI (cnL L k) m) = LV.int .i64 (cnL L (k + 1)) := by
      rw [hn]; congr 1; unfold minI
      cases g : ltI m (cnL L k) with
      | true => rw [ltI_t] at g; rw [if_pos g]
      | false => rw [ltI_f] at g; rw [if_neg (by omega)]
    ((repeat ((conv => whnf); first | refine brT ?_ | refine brF ?_)); conv => whnf)
    refine ⟨k, intLV m, rfl, hg, rfl, ?_⟩
    ((repeat ((conv => whnf); first | refine brT ?_ | refine brF ?_)); conv => whnf)
    refine round_end (k + 1) ⟨by omega, hlt⟩ (by omega) ⟨?_, trivial, rfl, rfl⟩
    repeat ((conv => whnf); first | refine ⟨e, ?_⟩ | refine ⟨hmn, ?_⟩ | refine ⟨rfl, ?_⟩)
    trivial
  · have h4 : k = L.length := by rw [ltI_f] at g1; omega
    subst h4
    ((repeat ((conv => whnf); first | refine brT ?_ | refine brF ?_)); conv => whnf)
    exact ⟨rfl, rfl, List.nodup_nil⟩
def cnR (L : List (Int × Int)) : Int := match eqI (L.length : Int) 0 with | true => 0 | false => cnL L L.length
theorem leastCanon_f (L : List (Int × Int)) (hs : ∀ p ∈ L, smallP p) (hm : L.length ≤ 40) : FSpec env.P 71 [.sl (L.map lkLV)] (.tup [.int .i64 (cnR L), .bool (lkB L)]) := by
  refine FSpec_of_code env_ok (fn := Try.f71) Try.func71 rfl Try.call71 _ _ ?_
  have hL : (L.map lkLV).length = L.length := List.length_map ..
  unfold cnR lkB
  ((repeat ((conv => whnf); first | refine brT ?_ | refine brF ?_)); conv => whnf)
  intro _
  ((repeat ((conv => whnf); first | refine brT ?_ | refine brF ?_)); conv => whnf)
  rw [hL]
  cases h : eqI (L.length : Int) 0
  · have h0 : 0 < L.length := by rw [eqI_f] at h; omega
    have hi := minInt_spec L hs h0 hm
    ((repeat ((conv => whnf); first | refine brT ?_ | refine brF ?_)); conv => whnf)
    refine ⟨_, mapMx L hm, ?_⟩
    rw [show flatT (rowOw (L.map lkMx)) = true from flat_ints _]
    ((repeat ((conv => whnf); first | refine brT ?_ | refine brF ?_)); conv => whnf)
    refine ⟨_, hi, ?_⟩
    ((repeat ((conv => whnf); first | refine brT ?_ | refine brF ?_)); conv => whnf)
    (repeat (first | exact List.nodup_nil | refine ⟨rfl, ?_⟩ | refine ⟨by simp [notB], ?_⟩))
  · ((repeat ((conv => whnf); first | refine brT ?_ | refine brF ?_)); conv => whnf)
    (repeat (first | exact List.nodup_nil | refine ⟨rfl, ?_⟩ | refine ⟨by simp [notB], ?_⟩))
theorem canon_impl (ps : List Per) (us : List Uni) (a b : Int) : FSpec env.P 26 [famLV ps us, .int .i64 a, .int .i64 b] (.tup [.int .i64 (cnR (linksL ps us a b)), .bool (lkB (linksL ps us a b))]) := by
  refine FSpec_of_code env_ok (fn := Try.f26) Try.func26 rfl Try.call26 _ _ ?_
  have hw := linksOf_f ps us a b
  have hl := leastCanon_f _ (links_small ps us a b) (links_len ps us a b)
  generalize linksL ps us a b = L at hw hl ⊢
  generalize cnR L = c at hl ⊢
  generalize lkB L = d at hl ⊢
  ((repeat ((conv => whnf); first | refine brT ?_ | refine brF ?_)); conv => whnf)
  refine ⟨_, hw, ?_⟩
  ((repeat ((conv => whnf); first | refine brT ?_ | refine brF ?_)); conv => whnf)
  refine ⟨_, hl, ?_⟩
  ((repeat ((conv => whnf); first | refine brT ?_ | refine brF ?_)); conv => whnf)
  (repeat (first | exact List.nodup_nil | refine ⟨rfl, ?_⟩))
theorem canon_spec (ps : List Per) (us : List Uni) (a b : Int) : FSpec env.P 25 [famLV ps us, .int .i64 a, .int .i64 b] (.tup [.int .i64 (cnR (linksL ps us a b)), .bool (lkB (linksL ps us a b))]) := by
  refine FSpec_of_code env_ok (fn := Try.f25) Try.func25 rfl Try.call25 _ _ ?_
  have hs := links_small ps us a b
  have hcl := com_lt (ps := ps) (us := us) (a := a) (b := b)
  have hw := nats_f (commons_spec ps us a b)
  have hm := links_len ps us a b
  have hF : 0 < (comL ps us a b).length → (∃ n : Nat, a = n ∧ n < ps.length) ∧ (∃ m : Nat, b = m ∧ m < ps.length) ∧ ps.length ≤ 40 ∧ parsIn ps ∧ shallow (depths ps) = true := fun h0 => by
    unfold comL at h0
    split at h0
    · rename_i h
      obtain ⟨h1, h2⟩ := Bool.and_eq_true_iff.1 h
      obtain ⟨a0, al, hl, hpi⟩ := hasP_in h1
      obtain ⟨b0, bl, _, _⟩ := hasP_in h2
      exact ⟨⟨a.toNat, by omega, al⟩, ⟨b.toNat, by omega, bl⟩, hl, hpi, fam_sh (hasP_lt h1).2.2⟩
    · simp at h0
  unfold linksL at hs hm ⊢
  generalize comL ps us a b = C at hcl hw hF hs hm ⊢
  rw [List.length_map] at hm
  have hC : (C.map natLV).length = C.length := List.length_map ..
  have hm40 : C.length ≤ Go.maxLen := by unfold Go.maxLen; omega
  have hLg : ∀ (k : Nat) (h : k < C.length), (C.map (lkOf ps a.toNat b.toNat))[k]? = some (lkOf ps a.toNat b.toNat C[k]) := fun k h => by rw [List.getElem?_map, List.getElem?_eq_getElem h]; rfl
  have hLl : (C.map (lkOf ps a.toNat b.toNat)).length = C.length := List.length_map ..
  generalize C.map (lkOf ps a.toNat b.toNat) = L at hs hLg hLl ⊢
  unfold cnR lkB
  ((repeat ((conv => whnf); first | refine brT ?_ | refine brF ?_)); conv => whnf)
  refine ⟨_, hw, ?_⟩
  ((repeat ((conv => whnf); first | refine brT ?_ | refine brF ?_)); conv => whnf)
  intro _
  ((repeat ((conv => whnf); first | refine brT ?_ | refine brF ?_)); conv => whnf)
  rw [hC]
  refine loop_rule (α := Nat) (fun k => [(8, .int .i64 (cnL L k)), (17, .int .i64 (k : Int))]) (fun k => [.box (famLV ps us)]) (fun k => C.length - k) (fun k => k ≤ C.length) 0 (Nat.zero_le _) ?_ ?_
  · refine ⟨?_, ⟨rfl, trivial⟩, rfl, rfl⟩
    ((repeat ((conv => whnf); refine ⟨rfl, ?_⟩)); trivial)
  intro k hk
  generalize hK : kk _ = KK
  ((repeat ((conv => whnf); first | refine brT ?_ | refine brF ?_)); conv => whnf)
  (refine ⟨fun g1 => ?_, fun g1 => ?_⟩ <;> rw [g1])
  · have hlt : k < C.length := by rw [ltI_t] at g1; omega
    have e := step_i hlt hm40
    obtain ⟨⟨n, rfl, al⟩, ⟨m, rfl, bl⟩, hl, hpi, hsh⟩ := hF (by omega)
    have hq := hcl _ (List.getElem_mem hlt)
    have hge := natl_get hlt
    have hn0 : cnL L (k + 1) = cnS (cnL L k) (lkMx (lkOf ps (n : Int).toNat (m : Int).toNat C[k])) := by rw [cnL, hLg k hlt]
    generalize C[k] = q at hq hge hn0
    rw [Int.toNat_natCast, Int.toNat_natCast] at hn0
    ((repeat ((conv => whnf); first | refine brT ?_ | refine brF ?_)); conv => whnf)
    refine ⟨k, .int .i64 (q : Int), rfl, hge, rfl, ?_⟩
    ((repeat ((conv => whnf); first | refine brT ?_ | refine brF ?_)); conv => whnf)
    refine ⟨true, by kernel_rfl, ?_⟩
    ((repeat ((conv => whnf); first | refine brT ?_ | refine brF ?_)); conv => whnf)
    refine ⟨_, up_f ps us hl hpi hsh n al, ?_⟩
    ((repeat ((conv => whnf); first | refine brT ?_ | refine brF ?_)); conv => whnf)
    refine ⟨q, intLV (upd ps n q), rfl, upRow_get hq, rfl, ?_⟩
    ((repeat ((conv => whnf); first | refine brT ?_ | refine brF ?_)); conv => whnf)
    refine ⟨_, up_f ps us hl hpi hsh m bl, ?_⟩
    ((repeat ((conv => whnf); first | refine brT ?_ | refine brF ?_)); conv => whnf)
    refine ⟨q, intLV (upd ps m q), rfl, upRow_get hq, rfl, ?_⟩
    ((repeat ((conv => whnf); first | refine brT ?_ | refine brF ?_)); conv => whnf)
    have ep : lkMx (lkOf ps n m q) = maxI (upd ps n q) (upd ps m q) := rfl
    rw [ep] at hn0
    generalize maxI (upd ps n q) (upd ps m q) = x at hn0 ⊢
    (refine ⟨fun g2 => ?_, fun g2 => ?_⟩ <;> rw [g2])
    · have hn : LV.int .i64 x = LV.int .i64 (cnL L (k + 1)) := by rw [hn0]; unfold cnS; rw [g2]; rfl
      ((repeat ((conv => whnf); first | refine brT ?_ | refine brF ?_)); conv => whnf)
      subst hK
      refine round_end (k + 1) hlt (by omega) ⟨?_, ⟨rfl, trivial⟩, rfl, rfl⟩
      repeat ((conv => whnf); first | refine ⟨e, ?_⟩ | refine ⟨hn, ?_⟩ | refine ⟨rfl, ?_⟩)
      trivial
    · ((repeat ((conv => whnf); first | refine brT ?_ | refine brF ?_)); conv => whnf)
      (refine ⟨fun g3 => ?_, fun g3 => ?_⟩ <;> rw [g3])
      · have hn : LV.int .i64 x = LV.int .i64 (cnL L (k + 1)) := by rw [hn0]; unfold cnS; rw [g2, g3]; rfl
        ((repeat ((conv => whnf); first | refine brT ?_ | refine brF ?_)); conv => whnf)
        subst hK
        refine round_end (k + 1) hlt (by omega) ⟨?_, ⟨rfl, trivial⟩, rfl, rfl⟩
        repeat ((conv => whnf); first | refine ⟨e, ?_⟩ | refine ⟨hn, ?_⟩ | refine ⟨rfl, ?_⟩)
        trivial
      · have hn : LV.int .i64 (cnL L k) = LV.int .i64 (cnL L (k + 1)) := by rw [hn0]; unfold cnS; rw [g2, g3]; rfl
        ((repeat ((conv => whnf); first | refine brT ?_ | refine brF ?_)); conv => whnf)
        subst hK
        refine round_end (k + 1) hlt (by omega) ⟨?_, ⟨rfl, trivial⟩, rfl, rfl⟩
        repeat ((conv => whnf); first | refine ⟨e, ?_⟩ | refine ⟨hn, ?_⟩ | refine ⟨rfl, ?_⟩)
        trivial
  · have h4 : k = C.length := by rw [ltI_f] at g1; omega
    subst h4
    subst hK
    rw [← hLl]
    cases h : eqI (L.length : Int) 0
    · have h0 : 0 < L.length := by rw [eqI_f] at h; omega
      have hb := cn_pos hs (L.length - 1) (by omega)
      rw [Nat.sub_add_cancel h0] at hb
      ((repeat ((conv => whnf); first | refine brT ?_ | refine brF ?_)); conv => whnf)
      rw [show ltI (cnL L L.length) 0 = false by rw [ltI_f]; exact hb]
      ((repeat ((conv => whnf); first | refine brT ?_ | refine brF ?_)); conv => whnf)
      (repeat (first | exact List.nodup_nil | refine ⟨rfl, ?_⟩ | refine ⟨by simp [notB], ?_⟩))
    · have h0 : L.length = 0 := by rw [eqI_t] at h; omega
      ((repeat ((conv => whnf); first | refine brT ?_ | refine brF ?_)); conv => whnf)
      rw [show ltI (cnL L L.length) 0 = true by rw [h0, ltI_t]; show (-1 : Int) < 0; omega]
      ((repeat ((conv => whnf); first | refine brT ?_ | refine brF ?_)); conv => whnf)
      (repeat (first | exact List.nodup_nil | refine ⟨rfl, ?_⟩ | refine ⟨by simp [notB], ?_⟩))
theorem law_linkOf (ps : List Per) (us : List Uni) (p q : Int) (hf : FamOK ps us) : FSpec env.P 4 [famLV ps us, .int .i64 p, .int .i64 q] (.bool true) := by
  refine FSpec_of_code env_ok (fn := Try.f4) Try.func4 rfl Try.call4 _ _ ?_
  ((repeat ((conv => whnf); first | refine brT ?_ | refine brF ?_)); conv => whnf)
  refine ⟨_, szFamily_spec ps us _, ?_⟩
  ((repeat ((conv => whnf); first | refine brT ?_ | refine brF ?_)); conv => whnf)
  (refine ⟨fun h => ?_, fun h => ?_⟩ <;> rw [h])
  · ((repeat ((conv => whnf); first | refine brT ?_ | refine brF ?_)); conv => whnf); exact fin rfl
  rw [ltI_f] at h
  obtain ⟨p1, u1, s1⟩ := szFam_ok (by omega) (by omega) hf h
  have hI := linkOf_impl ps us p q
  have hS := linkOf_spec ps us p q
  generalize (lkR (linksL ps us p q)).1 = v at hI hS
  generalize (lkR (linksL ps us p q)).2 = u at hI hS
  generalize lkB (linksL ps us p q) = b at hI hS
  ((repeat ((conv => whnf); first | refine brT ?_ | refine brF ?_)); conv => whnf)
  ((repeat' (((repeat ((conv => whnf); first | refine brT ?_ | refine brF ?_)); conv => whnf); first | (refine And.intro ?_ ?_ <;> (intro h; rw [h]; revert h; intro _)) | (refine Exists.intro true (And.intro (a := drawB _ _ = true) (by kernel_rfl) ?_)) | (refine Exists.intro _ (And.intro (toFamily_spec ps us p1 u1) ?_)) | (refine Exists.intro _ (And.intro (hS) ?_)) | (refine Exists.intro _ (And.intro (hI) ?_)) | (refine Exists.intro _ (And.intro (eqFamily_spec ps ps us us) ?_)))); all_goals ((repeat ((conv => whnf); first | refine brT ?_ | refine brF ?_)); conv => whnf))
  all_goals (refine fin ?_; simp_all [notB, eqB, eqFam_refl, eqI_refl])
theorem law_civil (ps : List Per) (us : List Uni) (p q : Int) (hf : FamOK ps us) : FSpec env.P 5 [famLV ps us, .int .i64 p, .int .i64 q] (.bool true) := by
  refine FSpec_of_code env_ok (fn := Try.f5) Try.func5 rfl Try.call5 _ _ ?_
  ((repeat ((conv => whnf); first | refine brT ?_ | refine brF ?_)); conv => whnf)
  refine ⟨_, szFamily_spec ps us _, ?_⟩
  ((repeat ((conv => whnf); first | refine brT ?_ | refine brF ?_)); conv => whnf)
  (refine ⟨fun h => ?_, fun h => ?_⟩ <;> rw [h])
  · ((repeat ((conv => whnf); first | refine brT ?_ | refine brF ?_)); conv => whnf); exact fin rfl
  rw [ltI_f] at h
  obtain ⟨p1, u1, s1⟩ := szFam_ok (by omega) (by omega) hf h
  have hI := civil_impl ps us p q
  have hS := civil_spec ps us p q
  generalize civR (linksL ps us p q) = v at hI hS
  generalize lkB (linksL ps us p q) = b at hI hS
  ((repeat ((conv => whnf); first | refine brT ?_ | refine brF ?_)); conv => whnf)
  ((repeat' (((repeat ((conv => whnf); first | refine brT ?_ | refine brF ?_)); conv => whnf); first | (refine And.intro ?_ ?_ <;> (intro h; rw [h]; revert h; intro _)) | (refine Exists.intro true (And.intro (a := drawB _ _ = true) (by kernel_rfl) ?_)) | (refine Exists.intro _ (And.intro (toFamily_spec ps us p1 u1) ?_)) | (refine Exists.intro _ (And.intro (hS) ?_)) | (refine Exists.intro _ (And.intro (hI) ?_)) | (refine Exists.intro _ (And.intro (eqFamily_spec ps ps us us) ?_)))); all_goals ((repeat ((conv => whnf); first | refine brT ?_ | refine brF ?_)); conv => whnf))
  all_goals (refine fin ?_; simp_all [notB, eqB, eqFam_refl, eqI_refl])
theorem law_canon (ps : List Per) (us : List Uni) (p q : Int) (hf : FamOK ps us) : FSpec env.P 6 [famLV ps us, .int .i64 p, .int .i64 q] (.bool true) := by
  refine FSpec_of_code env_ok (fn := Try.f6) Try.func6 rfl Try.call6 _ _ ?_
  ((repeat ((conv => whnf); first | refine brT ?_ | refine brF ?_)); conv => whnf)
  refine ⟨_, szFamily_spec ps us _, ?_⟩
  ((repeat ((conv => whnf); first | refine brT ?_ | refine brF ?_)); conv => whnf)
  (refine ⟨fun h => ?_, fun h => ?_⟩ <;> rw [h])
  · ((repeat ((conv => whnf); first | refine brT ?_ | refine brF ?_)); conv => whnf); exact fin rfl
  rw [ltI_f] at h
  obtain ⟨p1, u1, s1⟩ := szFam_ok (by omega) (by omega) hf h
  have hI := canon_impl ps us p q
  have hS := canon_spec ps us p q
  generalize cnR (linksL ps us p q) = v at hI hS
  generalize lkB (linksL ps us p q) = b at hI hS
  ((repeat ((conv => whnf); first | refine brT ?_ | refine brF ?_)); conv => whnf)
  ((repeat' (((repeat ((conv => whnf); first | refine brT ?_ | refine brF ?_)); conv => whnf); first | (refine And.intro ?_ ?_ <;> (intro h; rw [h]; revert h; intro _)) | (refine Exists.intro true (And.intro (a := drawB _ _ = true) (by kernel_rfl) ?_)) | (refine Exists.intro _ (And.intro (toFamily_spec ps us p1 u1) ?_)) | (refine Exists.intro _ (And.intro (hS) ?_)) | (refine Exists.intro _ (And.intro (hI) ?_)) | (refine Exists.intro _ (And.intro (eqFamily_spec ps ps us us) ?_)))); all_goals ((repeat ((conv => whnf); first | refine brT ?_ | refine brF ?_)); conv => whnf))
  all_goals (refine fin ?_; simp_all [notB, eqB, eqFam_refl, eqI_refl])
end Go.Proofs.Ytgkjafmmekjjlaa


namespace Go.Proofs.Ytgkjafmmekjjlaa
open Go.Lg Go.Pm
set_option maxHeartbeats 6400000
set_option maxRecDepth 10000
set_option linter.unusedVariables false
set_option linter.unusedSimpArgs false

/-! ### Classes that are given -/
def inCl (lo : Int) (n : Nat) (x : Int) : Bool := leI lo x && ltI x (n : Int)
def givB (ps : List Per) (us : List Uni) (w c g : List Int) (lo : Int) : Bool := famOk ps us && (clsB w c && (eqI (g.length : Int) (ps.length : Int) && g.all (inCl lo w.length)))
theorem given1_spec (w c : List Int) (lo x : Int) : FSpec env.P 122 [.int .i64 x, .ref (.int .i64 lo), .ref (clsLV w c)] (.bool (notB (inCl lo w.length x))) := by
  refine FSpec_of_code env_ok (fn := Try.f122) Try.func122 rfl Try.call122 _ _ ?_
  have hW : (w.map intLV).length = w.length := List.length_map ..
  ((repeat ((conv => whnf); first | refine brT ?_ | refine brF ?_)); conv => whnf)
  (refine ⟨fun h1 => ?_, fun h1 => ?_⟩ <;> rw [h1])
  · ((repeat ((conv => whnf); first | refine brT ?_ | refine brF ?_)); conv => whnf)
    refine fin ?_
    rw [ltI_t] at h1
    rw [show inCl lo w.length x = false by unfold inCl; rw [show leI lo x = false by rw [leI_f]; omega]; rfl]
    simp [notB]
  · ((repeat ((conv => whnf); first | refine brT ?_ | refine brF ?_)); conv => whnf)
    intro _
    rw [hW]
    ((repeat ((conv => whnf); first | refine brT ?_ | refine brF ?_)); conv => whnf)
    refine fin ?_
    rw [ltI_f] at h1
    unfold inCl
    rw [show leI lo x = true by rw [leI_t]; omega, Bool.true_and]
    cases h : ltI x (w.length : Int)
    · rw [ltI_f] at h
      rw [show leI (w.length : Int) x = true by rw [leI_t]; omega]; simp [notB]
    · rw [ltI_t] at h
      rw [show leI (w.length : Int) x = false by rw [leI_f]; omega]; simp [notB]
theorem indexGiv (F : Nat) (y z : LV) (q : Int → Bool) (xs : List Int) (hF : ∀ x, FSpec env.P F [.int .i64 x, .ref y, .ref z] (.bool (q x))) :
    FSpec env.P 146 [rowSl xs, .clos F [.ref y, .ref z]] (.int .i64 (idxFrom q 0 xs)) := by
  refine FSpec_of_code env_ok (fn := Try.f146) Try.func146 rfl Try.call146 _ _ ?_
  ((repeat ((conv => whnf); first | refine brT ?_ | refine brF ?_)); conv => whnf)
  intro hp
  have hp' : xs.length ≤ Go.maxLen := by simpa using hp
  ((repeat ((conv => whnf); first | refine brT ?_ | refine brF ?_)); conv => whnf)
  refine loop_rule (α := Nat) (fun k => [(8, .int .i64 (k : Int))]) (fun k => []) (fun k => xs.length - k) (fun k => k ≤ xs.length ∧ idxFrom q k (xs.drop k) = idxFrom q 0 xs) 0 ⟨Nat.zero_le _, rfl⟩ ?_ ?_
  · refine ⟨?_, trivial, rfl, rfl⟩
    ((repeat ((conv => whnf); refine ⟨rfl, ?_⟩)); trivial)
  rintro k ⟨hk, hf⟩
  ((repeat ((conv => whnf); first | refine brT ?_ | refine brF ?_)); conv => whnf)
  (refine ⟨fun h1 => ?_, fun h1 => ?_⟩ <;> rw [h1])
  · have hlt : k < xs.length := by rw [ltI_t] at h1; simp at h1; omega
    rw [List.drop_eq_getElem_cons hlt] at hf
    simp only [idxFrom] at hf
    ((repeat ((conv => whnf); first | refine brT ?_ | refine brF ?_)); conv => whnf)
    refine ⟨k, intLV xs[k], rfl, by simp [hlt], rfl, ?_⟩
    ((repeat ((conv => whnf); first | refine brT ?_ | refine brF ?_)); conv => whnf)
    refine ⟨_, hF xs[k], ?_⟩
    ((repeat ((conv => whnf); first | refine brT ?_ | refine brF ?_)); conv => whnf)
    (refine ⟨fun h2 => ?_, fun h2 => ?_⟩ <;> rw [h2])
    · rw [h2] at hf
      ((repeat ((conv => whnf); first | refine brT ?_ | refine brF ?_)); conv => whnf)
      exact ⟨rfl, by rw [← hf], List.nodup_nil⟩
    · rw [h2] at hf
      ((repeat ((conv => whnf); first | refine brT ?_ | refine brF ?_)); conv => whnf)
      refine round_end (k + 1) ⟨hlt, hf⟩ (by omega) ⟨?_, trivial, rfl, rfl⟩
      have e := step_i hlt hp'
      ((repeat ((conv => whnf); first | refine ⟨e, ?_⟩ | refine ⟨rfl, ?_⟩)); trivial)
  · have h3 : xs.length ≤ k := by rw [ltI_f] at h1; simp at h1; omega
    rw [List.drop_eq_nil_of_le h3] at hf
    ((repeat ((conv => whnf); first | refine brT ?_ | refine brF ?_)); conv => whnf)
    exact ⟨rfl, by rw [← hf]; rfl, List.nodup_nil⟩
theorem containsGiv (F : Nat) (y z : LV) (q : Int → Bool) (xs : List Int) (hF : ∀ x, FSpec env.P F [.int .i64 x, .ref y, .ref z] (.bool (q x))) :
    FSpec env.P 121 [rowSl xs, .clos F [.ref y, .ref z]] (.bool (xs.any q)) := by
  refine FSpec_of_code env_ok (fn := Try.f121) Try.func121 rfl Try.call121 _ _ ?_
  ((repeat ((conv => whnf); first | refine brT ?_ | refine brF ?_)); conv => whnf)
  refine ⟨_, indexGiv F y z q xs hF, ?_⟩
  ((repeat ((conv => whnf); first | refine brT ?_ | refine brF ?_)); conv => whnf)
  exact fin (idxFrom_ge _ _ _)
theorem any_notB {α : Type} (q : α → Bool) : ∀ xs : List α, notB (xs.any fun x => notB (q x)) = xs.all q
  | [] => by simp [notB]
  | x :: xs => by
    rw [List.any_cons, List.all_cons, ← any_notB q xs]
    cases q x <;> simp [notB]
theorem giv_impl (ps : List Per) (us : List Uni) (w c g : List Int) (lo : Int) (h1 : w.length ≤ 1048576) (h2 : c.length ≤ 1048576) :
    FSpec env.P 78 [.int .i64 lo, famLV ps us, clsLV w c, rowSl g] (.bool (givB ps us w c g lo)) := by
  refine FSpec_of_code env_ok (fn := Try.f78) Try.func78 rfl Try.call78 _ _ ?_
  have hP : (ps.map Per.lv).length = ps.length := List.length_map ..
  have hG : (g.map intLV).length = g.length := List.length_map ..
  ((repeat ((conv => whnf); first | refine brT ?_ | refine brF ?_)); conv => whnf)
  intro _
  ((repeat ((conv => whnf); first | refine brT ?_ | refine brF ?_)); conv => whnf)
  intro _
  ((repeat ((conv => whnf); first | refine brT ?_ | refine brF ?_)); conv => whnf)
  rw [hG, hP]
  cases e3 : eqI (g.length : Int) (ps.length : Int)
  · rw [show notB false = true by simp [notB]]
    ((repeat ((conv => whnf); first | refine brT ?_ | refine brF ?_)); conv => whnf)
    refine fin ?_; simp [givB, e3]
  rw [show notB true = false by simp [notB]]
  ((repeat ((conv => whnf); first | refine brT ?_ | refine brF ?_)); conv => whnf)
  refine ⟨_, isFamily_impl ps us, ?_⟩
  ((repeat ((conv => whnf); first | refine brT ?_ | refine brF ?_)); conv => whnf)
  cases e1 : famOk ps us
  · rw [show notB false = true by simp [notB]]
    ((repeat ((conv => whnf); first | refine brT ?_ | refine brF ?_)); conv => whnf)
    refine fin ?_; simp [givB, e1]
  rw [show notB true = false by simp [notB]]
  ((repeat ((conv => whnf); first | refine brT ?_ | refine brF ?_)); conv => whnf)
  refine ⟨_, isClasses_impl w c h1 h2, ?_⟩
  ((repeat ((conv => whnf); first | refine brT ?_ | refine brF ?_)); conv => whnf)
  cases e2 : clsB w c
  · rw [show notB false = true by simp [notB]]
    ((repeat ((conv => whnf); first | refine brT ?_ | refine brF ?_)); conv => whnf)
    refine fin ?_; simp [givB, e2]
  rw [show notB true = false by simp [notB]]
  ((repeat ((conv => whnf); first | refine brT ?_ | refine brF ?_)); conv => whnf)
  refine ⟨_, containsGiv _ _ _ (fun x => notB (inCl lo w.length x)) g fun x => given1_spec w c lo x, ?_⟩
  ((repeat ((conv => whnf); first | refine brT ?_ | refine brF ?_)); conv => whnf)
  refine fin ?_
  rw [any_notB]; simp [givB, e1, e2, e3]
theorem giv_spec (ps : List Per) (us : List Uni) (w c g : List Int) (lo : Int) (h1 : w.length ≤ 1048576) (h2 : c.length ≤ 1048576) :
    FSpec env.P 77 [famLV ps us, clsLV w c, rowSl g, .int .i64 lo] (.bool (givB ps us w c g lo)) := by
  refine FSpec_of_code env_ok (fn := Try.f77) Try.func77 rfl Try.call77 _ _ ?_
  have hP : (ps.map Per.lv).length = ps.length := List.length_map ..
  have hG : (g.map intLV).length = g.length := List.length_map ..
  have hW : (w.map intLV).length = w.length := List.length_map ..
  ((repeat ((conv => whnf); first | refine brT ?_ | refine brF ?_)); conv => whnf)
  refine ⟨_, isFamily_spec ps us, ?_⟩
  ((repeat ((conv => whnf); first | refine brT ?_ | refine brF ?_)); conv => whnf)
  cases e1 : famOk ps us
  · rw [show notB false = true by simp [notB]]
    ((repeat ((conv => whnf); first | refine brT ?_ | refine brF ?_)); conv => whnf)
    refine fin ?_; simp [givB, e1]
  rw [show notB true = false by simp [notB]]
  ((repeat ((conv => whnf); first | refine brT ?_ | refine brF ?_)); conv => whnf)
  refine ⟨_, isClasses_spec w c h1 h2, ?_⟩
  ((repeat ((conv => whnf); first | refine brT ?_ | refine brF ?_)); conv => whnf)
  cases e2 : clsB w c
  · rw [show notB false = true by simp [notB]]
    ((repeat ((conv => whnf); first | refine brT ?_ | refine brF ?_)); conv => whnf)
    refine fin ?_; simp [givB, e2]
  rw [show notB true = false by simp [notB]]
  ((repeat ((conv => whnf); first | refine brT ?_ | refine brF ?_)); conv => whnf)
  intro hgm
  ((repeat ((conv => whnf); first | refine brT ?_ | refine brF ?_)); conv => whnf)
  intro _
  ((repeat ((conv => whnf); first | refine brT ?_ | refine brF ?_)); conv => whnf)
  rw [hG, hP]
  cases e3 : eqI (g.length : Int) (ps.length : Int)
  · rw [show notB false = true by simp [notB]]
    ((repeat ((conv => whnf); first | refine brT ?_ | refine brF ?_)); conv => whnf)
    refine fin ?_; simp [givB, e3]
  rw [show notB true = false by simp [notB]]
  have hg' : g.length ≤ Go.maxLen := by rw [← hG]; exact hgm
  obtain ⟨n1, n8, _, _, _⟩ := clsB_at e2
  ((repeat ((conv => whnf); first | refine brT ?_ | refine brF ?_)); conv => whnf)
  intro _
  ((repeat ((conv => whnf); first | refine brT ?_ | refine brF ?_)); conv => whnf)
  refine loop_rule (α := Nat) (fun k => [(29, .int .i64 (k : Int))]) (fun k => [.box (famLV ps us), .box (clsLV w c)]) (fun k => g.length - k) (fun k => k ≤ g.length ∧ (g.drop k).all (inCl lo w.length) = g.all (inCl lo w.length)) 0 ⟨Nat.zero_le _, rfl⟩ ?_ ?_
  · refine ⟨?_, ⟨rfl, rfl, trivial⟩, rfl, rfl⟩
    ((repeat ((conv => whnf); refine ⟨rfl, ?_⟩)); trivial)
  rintro k ⟨hk, hf⟩
  ((repeat ((conv => whnf); first | refine brT ?_ | refine brF ?_)); conv => whnf)
  (refine ⟨fun g1 => ?_, fun g1 => ?_⟩ <;> rw [g1])
  · have hlt : k < g.length := by rw [ltI_t] at g1; simp at g1; omega
    rw [List.drop_eq_getElem_cons hlt, List.all_cons] at hf
    have e := step_i hlt hg'
    have ew : IntKind.i64.wrap ((w.length : Int) - 1) = (w.length : Int) - 1 := wrap64 (by omega) (by omega)
    have ei : inCl lo w.length g[k] = (leI lo g[k] && leI g[k] ((w.length : Int) - 1)) := by
      unfold inCl
      congr 1
      cases h : ltI g[k] (w.length : Int)
      · rw [ltI_f] at h; symm; rw [leI_f]; omega
      · rw [ltI_t] at h; symm; rw [leI_t]; omega
    ((repeat ((conv => whnf); first | refine brT ?_ | refine brF ?_)); conv => whnf)
    refine ⟨k, intLV g[k], rfl, by simp [hlt], rfl, ?_⟩
    ((repeat ((conv => whnf); first | refine brT ?_ | refine brF ?_)); conv => whnf)
    intro _
    ((repeat ((conv => whnf); first | refine brT ?_ | refine brF ?_)); conv => whnf)
    rw [hW, ew]
    refine ⟨_, l1In_spec g[k] lo ((w.length : Int) - 1), ?_⟩
    rw [← ei]
    ((repeat ((conv => whnf); first | refine brT ?_ | refine brF ?_)); conv => whnf)
    cases e4 : inCl lo w.length g[k]
    · rw [show notB false = true by simp [notB]]
      rw [e4, Bool.false_and] at hf
      ((repeat ((conv => whnf); first | refine brT ?_ | refine brF ?_)); conv => whnf)
      refine fin ?_; simp [givB, ← hf]
    · rw [show notB true = false by simp [notB]]
      rw [e4, Bool.true_and] at hf
      ((repeat ((conv => whnf); first | refine brT ?_ | refine brF ?_)); conv => whnf)
      refine round_end (k + 1) ⟨hlt, hf⟩ (by omega) ⟨?_, ⟨rfl, rfl, trivial⟩, rfl, rfl⟩
      ((repeat ((conv => whnf); first | refine ⟨e, ?_⟩ | refine ⟨rfl, ?_⟩)); trivial)
  · have h3 : g.length ≤ k := by rw [ltI_f] at g1; simp at g1; omega
    rw [List.drop_eq_nil_of_le h3] at hf
    ((repeat ((conv => whnf); first | refine brT ?_ | refine brF ?_)); conv => whnf)
    refine fin ?_; simp [givB, e1, e2, e3, ← hf]
end Go.Proofs.Ytgkjafmmekjjlaa


namespace Go.Proofs.Ytgkjafmmekjjlaa
open Go.Lg Go.Pm
set_option maxHeartbeats 6400000
set_option maxRecDepth 10000
set_option linter.unusedVariables false
set_option linter.unusedSimpArgs false

/-! ### Bonds -/
structure Bd where
  fr : Int
  to : Int
  via : List Int
def Bd.lv (b : Bd) : LV := .st [.int .i64 b.fr, .int .i64 b.to, rowSl b.via]
end Go.Proofs.Ytgkjafmmekjjlaa

namespace Go.Proofs.Ytgkjafmmekjjlaa
open Go.Lg
set_option maxHeartbeats 3200000
set_option maxRecDepth 10000
set_option linter.unusedVariables false
set_option linter.unusedSimpArgs false

end Go.Proofs.Ytgkjafmmekjjlaa

namespace Go.Proofs.Ytgkjafmmekjjlaa
open Go.Lg Go.Pm
set_option maxHeartbeats 6400000
set_option maxRecDepth 10000
set_option linter.unusedVariables false
set_option linter.unusedSimpArgs false

/-! ### Errors of classes -/
structure BdIn (N m : Nat) (b : Bd) : Prop where
  f0 : 0 ≤ b.fr
  fl : b.fr.toNat < N
  t0 : 0 ≤ b.to
  tl : b.to.toNat < N
  vl : b.via.length = m
end Go.Proofs.Ytgkjafmmekjjlaa

namespace Go.Proofs.Ytgkjafmmekjjlaa
open Go.Lg Go.Pm
set_option maxHeartbeats 6400000
set_option maxRecDepth 10000
set_option linter.unusedVariables false
set_option linter.unusedSimpArgs false

end Go.Proofs.Ytgkjafmmekjjlaa

namespace Go.Proofs.Ytgkjafmmekjjlaa
open Go.Lg Go.Pm
set_option maxHeartbeats 6400000
set_option maxRecDepth 10000
set_option linter.unusedVariables false
set_option linter.unusedSimpArgs false

end Go.Proofs.Ytgkjafmmekjjlaa

namespace Go.Proofs.Ytgkjafmmekjjlaa
open Go.Lg Go.Pm
set_option maxHeartbeats 6400000
set_option maxRecDepth 10000
set_option linter.unusedVariables false
set_option linter.unusedSimpArgs false

end Go.Proofs.Ytgkjafmmekjjlaa

namespace Go.Proofs.Ytgkjafmmekjjlaa
open Go.Lg Go.Pm
set_option maxHeartbeats 6400000
set_option maxRecDepth 10000
set_option linter.unusedVariables false
set_option linter.unusedSimpArgs false

end Go.Proofs.Ytgkjafmmekjjlaa

namespace Go.Proofs.Ytgkjafmmekjjlaa
open Go.Lg Go.Pm
set_option maxHeartbeats 6400000
set_option maxRecDepth 10000
set_option linter.unusedVariables false
set_option linter.unusedSimpArgs false

end Go.Proofs.Ytgkjafmmekjjlaa

namespace Go.Proofs.Ytgkjafmmekjjlaa
open Go.Lg Go.Pm
set_option maxHeartbeats 6400000
set_option maxRecDepth 10000
set_option linter.unusedVariables false
set_option linter.unusedSimpArgs false

/-! ### Products -/
def smallI (m : Nat) (a : List Int) : Prop := ∀ x ∈ a, 0 ≤ x ∧ x < m
theorem smallI.at {m : Nat} {a : List Int} (h : smallI m a) {i : Nat} (hi : i < a.length) : 0 ≤ a.getD i 0 ∧ a.getD i 0 < m := by rw [getD_lt hi]; exact h _ (List.getElem_mem hi)
end Go.Proofs.Ytgkjafmmekjjlaa

namespace Go.Proofs.Ytgkjafmmekjjlaa
open Go.Lg Go.Pm
set_option maxHeartbeats 6400000
set_option maxRecDepth 10000
set_option linter.unusedVariables false
set_option linter.unusedSimpArgs false

end Go.Proofs.Ytgkjafmmekjjlaa

namespace Go.Proofs.Ytgkjafmmekjjlaa
open Go.Lg Go.Pm
set_option maxHeartbeats 6400000
set_option maxRecDepth 10000
set_option linter.unusedVariables false
set_option linter.unusedSimpArgs false

end Go.Proofs.Ytgkjafmmekjjlaa

namespace Go.Proofs.Ytgkjafmmekjjlaa
open Go.Lg Go.Pm
set_option maxHeartbeats 6400000
set_option maxRecDepth 10000
set_option linter.unusedVariables false
set_option linter.unusedSimpArgs false

end Go.Proofs.Ytgkjafmmekjjlaa

namespace Go.Proofs.Ytgkjafmmekjjlaa
open Go.Lg Go.Pm
set_option maxHeartbeats 3200000
set_option maxRecDepth 10000
set_option linter.unusedVariables false
set_option linter.unusedSimpArgs false

/-! ### Partners by class -/
theorem people4_h (ps : List Per) (us : List Uni) (F : Nat) (x y z u : LV) (q : Nat → Bool) (hl : ps.length ≤ 40) (hF : ∀ i, i < ps.length → FSpec env.P F [.int .i64 (i : Int), .ref x, .ref y, .ref z, .ref u] (.bool (q i))) :
    HSpec env.P 80 [famLV ps us, .clos F [.ref x, .ref y, .ref z, .ref u]] [] (.hs 0 (rowW q ps.length).length) [.arr 3 1 (rowW q ps.length)] := by
  refine HSpec_of_code (E := env.x [] 0) env_ok.x (fn := Try.f80) Try.func80 rfl Try.call80 _ _ _ _ ?_
  have hP : (ps.map Per.lv).length = ps.length := List.length_map ..
  have hp' : ps.length ≤ Go.maxLen := by unfold Go.maxLen; omega
  ((repeat ((conv => whnf); first | refine brT ?_ | refine brF ?_)); conv => whnf)
  intro _
  rw [hP]
  ((repeat ((conv => whnf); first | refine brT ?_ | refine brF ?_)); conv => whnf)
  refine loop_ruleR (α := Nat) [.old 0, .nil 3 1] (fun k => [(10, .int .i64 (k : Int)), (5, .hs 1 (rowW q k).length)]) (fun k => [.box (famLV ps us), .arr 3 1 (rowW q k)]) (fun k => ps.length - k) (fun k => k ≤ ps.length) 0 (Nat.zero_le _) ?_ ?_
  · refine ⟨?_, ⟨rfl, rfl, rfl, rfl, trivial⟩, rfl⟩
    ((repeat ((conv => whnf); refine ⟨rfl, rfl, ?_⟩)); trivial)
  intro k hk
  generalize hK : kk _ = KK
  ((repeat ((conv => whnf); first | refine brT ?_ | refine brF ?_)); conv => whnf)
  (refine ⟨fun g1 => ?_, fun g1 => ?_⟩ <;> rw [g1])
  · have hlt : k < ps.length := by rw [ltI_t] at g1; omega
    have e := step_i hlt hp'
    have hw := wantL_succ q k
    have hwl := wantL_len q (k + 1)
    ((repeat ((conv => whnf); first | refine brT ?_ | refine brF ?_)); conv => whnf)
    refine ⟨_, hF k hlt, ?_⟩
    ((repeat ((conv => whnf); first | refine brT ?_ | refine brF ?_)); conv => whnf)
    (refine ⟨fun g2 => ?_, fun g2 => ?_⟩ <;> rw [g2])
    · rw [g2] at hw
      have e2 : rowW q k ++ [LV.int .i64 (k : Int)] = rowW q (k + 1) := by unfold rowW; rw [hw, List.map_append]; rfl
      have hl1 : (rowW q (k + 1)).length ≤ k + 1 := by unfold rowW; rw [List.length_map]; exact hwl
      ((repeat ((conv => whnf); first | refine brT ?_ | refine brF ?_)); conv => whnf)
      refine ⟨rfl, rfl, ?_, ?_, ?_⟩
      · rw [e2]; unfold Go.maxLen; omega
      · rw [e2]; show (rowW q (k + 1)).length * 8 ≤ _; omega
      rw [e2]
      ((repeat ((conv => whnf); first | refine brT ?_ | refine brF ?_)); conv => whnf)
      subst hK
      refine round_endR [.old 0, .old 3] (k + 1) hlt (by omega) ⟨?_, ⟨rfl, rfl, rfl, rfl, trivial⟩, rfl⟩
      ((repeat ((conv => whnf); first | refine ⟨rfl, e, ?_⟩ | refine ⟨rfl, rfl, ?_⟩)); trivial)
    · rw [g2, List.append_nil] at hw
      have e2 : rowW q k = rowW q (k + 1) := by unfold rowW; rw [hw]
      have e3 : LV.hs 1 (rowW q k).length = LV.hs 1 (rowW q (k + 1)).length := by rw [e2]
      ((repeat ((conv => whnf); first | refine brT ?_ | refine brF ?_)); conv => whnf)
      subst hK
      refine round_endR [.old 0, .old 1] (k + 1) hlt (by omega) ⟨?_, ⟨rfl, rfl, rfl, congrArg (Blk.arr 3 1) e2, trivial⟩, rfl⟩
      repeat ((conv => whnf); first | refine ⟨rfl, e, ?_⟩ | refine ⟨rfl, e3, ?_⟩ | refine ⟨rfl, rfl, ?_⟩)
      trivial
  have h4 : k = ps.length := by rw [ltI_f] at g1; omega
  subst h4
  subst hK
  ((repeat ((conv => whnf); first | refine brT ?_ | refine brF ?_)); conv => whnf)
  exact ⟨[.hs 0 (rowW q ps.length).length], rfl, rfl, .inr ⟨[.old 1], ⟨rfl, rfl, trivial⟩, ⟨rfl, rfl, trivial⟩, rfl⟩⟩
/-- Where a number stands first. -/
def ixW (x : Int) (k : Nat) : List Int → Int
  | [] => -1
  | y :: l => match eqI x y with | true => (k : Int) | false => ixW x (k + 1) l
theorem indexW_spec (l : List Int) (x : Int) : FSpec env.P 79 [.sl (l.map intLV), .int .i64 x] (.int .i64 (ixW x 0 l)) := by
  refine FSpec_of_code env_ok (fn := Try.f79) Try.func79 rfl Try.call79 _ _ ?_
  have hX : (l.map intLV).length = l.length := List.length_map ..
  ((repeat ((conv => whnf); first | refine brT ?_ | refine brF ?_)); conv => whnf)
  intro hn
  rw [hX] at hn
  ((repeat ((conv => whnf); first | refine brT ?_ | refine brF ?_)); conv => whnf)
  rw [hX]
  refine loop_rule (α := Nat) (fun k => [(8, .int .i64 (k : Int))]) (fun _ => []) (fun k => l.length - k) (fun k => k ≤ l.length ∧ ixW x 0 l = ixW x k (l.drop k)) 0 ⟨Nat.zero_le _, rfl⟩ ?_ ?_
  · refine ⟨?_, trivial, rfl, rfl⟩
    ((repeat ((conv => whnf); refine ⟨rfl, ?_⟩)); trivial)
  rintro k ⟨hk, hi⟩
  ((repeat ((conv => whnf); first | refine brT ?_ | refine brF ?_)); conv => whnf)
  (refine ⟨fun h1 => ?_, fun h1 => ?_⟩ <;> rw [h1])
  · have hlt : k < l.length := by rw [ltI_t] at h1; omega
    have e := step_i hlt hn
    have hd : l.drop k = l[k] :: l.drop (k + 1) := List.drop_eq_getElem_cons hlt
    have hg : (l.map intLV)[k]? = some (intLV l[k]) := by rw [List.getElem?_map, List.getElem?_eq_getElem hlt]; rfl
    rw [hd] at hi
    generalize l[k] = y at hi hg
    ((repeat ((conv => whnf); first | refine brT ?_ | refine brF ?_)); conv => whnf)
    refine ⟨k, intLV y, rfl, hg, rfl, ?_⟩
    ((repeat ((conv => whnf); first | refine brT ?_ | refine brF ?_)); conv => whnf)
    (refine ⟨fun h2 => ?_, fun h2 => ?_⟩ <;> rw [h2])
    · ((repeat ((conv => whnf); first | refine brT ?_ | refine brF ?_)); conv => whnf)
      refine ⟨rfl, ?_, List.nodup_nil⟩
      rw [hi]; unfold ixW; rw [h2]
    · ((repeat ((conv => whnf); first | refine brT ?_ | refine brF ?_)); conv => whnf)
      refine round_end (k + 1) ⟨hlt, ?_⟩ (by omega) ⟨?_, trivial, rfl, rfl⟩
      · rw [hi]; conv => lhs; unfold ixW
        rw [h2]
      ((repeat ((conv => whnf); first | refine ⟨e, ?_⟩ | refine ⟨rfl, ?_⟩)); trivial)
  · have h4 : k = l.length := by rw [ltI_f] at h1; omega
    subst h4
    ((repeat ((conv => whnf); first | refine brT ?_ | refine brF ?_)); conv => whnf)
    refine ⟨rfl, ?_, List.nodup_nil⟩
    rw [hi, List.drop_length]; rfl
def sexA (ps : List Per) (k : Nat) : Int := match ps[k]? with | some x => x.sex | none => 0
def gA (g : List Int) (k : Nat) : Int := g.getD k 0
theorem gA_get {g : List Int} {k : Nat} (h : k < g.length) : (g.map intLV)[k]? = some (intLV (gA g k)) := by
  unfold gA; rw [List.getElem?_map, List.getElem?_eq_getElem h, getD_lt h]; rfl
theorem sexA_get {ps : List Per} {k : Nat} (h : k < ps.length) : ∃ x : Per, (ps.map Per.lv)[k]? = some x.lv ∧ x.sex = sexA ps k := by
  refine ⟨ps[k], by rw [List.getElem?_map, List.getElem?_eq_getElem h]; rfl, ?_⟩
  unfold sexA; rw [List.getElem?_eq_getElem h]
def cpS (ps : List Per) (p : Nat) : Int := match eqI (sexA ps p) 2 with | true => 1 | false => 2
def cpC (ps : List Per) (w g : List Int) (p : Nat) : Int := match eqI (sexA ps p) 2 with | true => ixW (gA g p) 0 w | false => gA w (gA g p).toNat
def cpQ (ps : List Per) (w g : List Int) (p k : Nat) : Bool := eqI (sexA ps k) (cpS ps p) && eqI (gA g k) (cpC ps w g p)
def cpL (ps : List Per) (us : List Uni) (w c g : List Int) (p : Int) : List Nat := match hasP ps us p && givB ps us w c g 0 with | true => wantL (cpQ ps w g p.toNat) ps.length | false => []
theorem cp1_spec (ps : List Per) (us : List Uni) (g : List Int) (S C : Int) {k : Nat} (hk : k < ps.length) (hg : k < g.length) :
    FSpec env.P 81 [.int .i64 (k : Int), .ref (famLV ps us), .ref (.int .i64 S), .ref (rowSl g), .ref (.int .i64 C)] (.bool (eqI (sexA ps k) S && eqI (gA g k) C)) := by
  refine FSpec_of_code env_ok (fn := Try.f81) Try.func81 rfl Try.call81 _ _ ?_
  obtain ⟨x, hx, hs⟩ := sexA_get hk
  have hgk := gA_get hg
  rw [← hs]
  unfold rowSl
  ((repeat ((conv => whnf); first | refine brT ?_ | refine brF ?_)); conv => whnf)
  refine ⟨true, by kernel_rfl, ?_⟩
  ((repeat ((conv => whnf); first | refine brT ?_ | refine brF ?_)); conv => whnf)
  refine ⟨k, x.lv, rfl, hx, rfl, ?_⟩
  ((repeat ((conv => whnf); first | refine brT ?_ | refine brF ?_)); conv => whnf)
  (refine ⟨fun h => ?_, fun h => ?_⟩ <;> rw [h])
  · ((repeat ((conv => whnf); first | refine brT ?_ | refine brF ?_)); conv => whnf)
    refine ⟨k, _, rfl, hgk, rfl, ?_⟩
    ((repeat ((conv => whnf); first | refine brT ?_ | refine brF ?_)); conv => whnf)
    exact ⟨by rfl, List.nodup_nil⟩
  · ((repeat ((conv => whnf); first | refine brT ?_ | refine brF ?_)); conv => whnf)
    exact ⟨by rfl, List.nodup_nil⟩
theorem fam_sex {ps : List Per} {us : List Uni} (h : famOk ps us = true) {k : Nat} (hk : k < ps.length) : sexA ps k = 1 ∨ sexA ps k = 2 := by
  unfold sexA; rw [List.getElem?_eq_getElem hk]
  have hp := (famOk_parts h).2.2.1
  unfold personsTo at hp
  rw [List.all_eq_true] at hp
  have := hp k (List.mem_range.2 hk)
  rw [List.getElem?_eq_getElem hk] at this
  exact (personOk_spec this).2.2.1
theorem cpg_at {ps : List Per} {us : List Uni} {w c g : List Int} (h : givB ps us w c g 0 = true) :
    clsB w c = true ∧ g.length = ps.length ∧ ∀ k, k < g.length → 0 ≤ gA g k ∧ (gA g k).toNat < w.length := by
  unfold givB at h
  simp only [Bool.and_eq_true, eqI_t, List.all_eq_true] at h
  obtain ⟨_, h1, h2, h3⟩ := h
  refine ⟨h1, by omega, fun k hk => ?_⟩
  have := h3 _ (List.getElem_mem hk)
  unfold inCl at this
  simp only [Bool.and_eq_true, leI_t, ltI_t] at this
  unfold gA
  rw [getD_lt hk]
  omega
theorem ixW_ge (x : Int) : ∀ (l : List Int) (k : Nat), ixW x k l = -1 ∨ (k : Int) ≤ ixW x k l
  | [], k => .inl rfl
  | y :: l, k => by
    simp only [ixW]
    split
    · exact .inr (Int.le_refl _)
    · rcases ixW_ge x l (k + 1) with h | h
      · exact .inl h
      · right; omega
theorem ixW_at (x : Int) : ∀ (l : List Int) (k j : Nat), l.Nodup → j < l.length → (ixW x k l = ((k + j : Nat) : Int) ↔ l.getD j 0 = x)
  | [], k, j, _, h => by simp at h
  | y :: l, k, j, hn, hj => by
    have hn' := List.nodup_cons.1 hn
    cases j with
    | zero =>
      simp only [ixW, List.getD_cons_zero, Nat.add_zero]
      cases h : eqI x y with
      | true => rw [eqI_t] at h; simp [h]
      | false =>
        rw [eqI_f] at h
        simp only
        constructor
        · intro e
          exfalso
          have : ∀ (l : List Int) (k : Nat), ixW x (k + 1) l ≠ (k : Int) := by
            intro l
            induction l with
            | nil => intro k; simp only [ixW]; omega
            | cons z l ih =>
              intro k
              simp only [ixW]
              split
              · omega
              · have := ixW_ge x l (k + 1 + 1)
                rcases this with h | h <;> omega
          exact this l k e
        · intro e; exact absurd e.symm h
    | succ j =>
      simp only [ixW, List.getD_cons_succ]
      cases h : eqI x y with
      | true =>
        rw [eqI_t] at h
        subst h
        simp only
        constructor
        · intro e; omega
        · intro e
          exfalso
          have hj' : j < l.length := by simpa using hj
          rw [getD_lt hj'] at e
          exact hn'.1 (e ▸ List.getElem_mem hj')
      | false =>
        have := ixW_at x l (k + 1) j hn'.2 (by simpa using hj)
        simp only
        rw [← this]
        constructor <;> intro e <;> rw [e] <;> congr 1 <;> omega
def spQ (ps : List Per) (w g : List Int) (p k : Nat) : Bool :=
  (eqI (sexA ps p) 1 && (eqI (sexA ps k) 2 && eqI (gA g k) (gA w (gA g p).toNat))) || (eqI (sexA ps p) 2 && (eqI (sexA ps k) 1 && eqI (gA w (gA g k).toNat) (gA g p)))
theorem cpQ_eq {ps : List Per} {us : List Uni} {w c g : List Int} (hf : famOk ps us = true) (hg : givB ps us w c g 0 = true) {p k : Nat} (hp : p < ps.length) (hk : k < ps.length) : cpQ ps w g p k = spQ ps w g p k := by
  obtain ⟨hc, hl, ha⟩ := cpg_at hg
  obtain ⟨k0, k1⟩ := ha k (by omega)
  have hn := (permB_spec.1 (clsB_at hc).2.2.2.1).2
  unfold cpQ spQ cpS cpC
  rcases fam_sex hf hp with h | h <;> rw [h]
  · rw [show eqI 1 2 = false by rw [eqI_f]; omega, eqI_refl]
    simp
  · rw [show eqI 2 1 = false by rw [eqI_f]; omega, eqI_refl]
    have := ixW_at (gA g p) w 0 (gA g k).toNat hn k1
    have e : eqI (gA g k) (ixW (gA g p) 0 w) = eqI (gA w (gA g k).toNat) (gA g p) := by
      rw [Bool.eq_iff_iff, eqI_t, eqI_t]
      unfold gA at this ⊢
      rw [← this]
      unfold gA at k0
      constructor <;> intro e <;> omega
    simp only [e, Bool.false_and, Bool.false_or, Bool.true_and]
theorem cp_impl (ps : List Per) (us : List Uni) (w c g : List Int) (p : Int) (h1 : w.length ≤ 1048576) (h2 : c.length ≤ 1048576) :
    HSpec env.P 36 [famLV ps us, clsLV w c, rowSl g, .int .i64 p] [] (.hs 0 ((cpL ps us w c g p).map natLV).length) [.arr 3 1 ((cpL ps us w c g p).map natLV)] := by
  refine HSpec_of_code (E := env.x [80] 0) env_ok.x (fn := Try.f36) Try.func36 rfl Try.call36 _ _ _ _ ?_
  unfold cpL
  ((repeat ((conv => whnf); first | refine brT ?_ | refine brF ?_)); conv => whnf)
  refine ⟨_, hasPerson_spec ps us p, ?_⟩
  ((repeat ((conv => whnf); first | refine brT ?_ | refine brF ?_)); conv => whnf)
  cases hp : hasP ps us p
  · rw [show notB false = true by simp [notB]]
    ((repeat ((conv => whnf); first | refine brT ?_ | refine brF ?_)); conv => whnf)
    exact ⟨[.hs 0 0], rfl, rfl, .nl [.tmp 0 [] false 3 1] [.old 3] ⟨⟨rfl, rfl, trivial⟩, ⟨rfl, rfl, trivial⟩, rfl⟩⟩
  rw [show notB true = false by simp [notB]]
  ((repeat ((conv => whnf); first | refine brT ?_ | refine brF ?_)); conv => whnf)
  refine ⟨_, giv_impl ps us w c g 0 h1 h2, ?_⟩
  ((repeat ((conv => whnf); first | refine brT ?_ | refine brF ?_)); conv => whnf)
  cases hg : givB ps us w c g 0
  · rw [show notB false = true by simp [notB]]
    ((repeat ((conv => whnf); first | refine brT ?_ | refine brF ?_)); conv => whnf)
    exact ⟨[.hs 0 0], rfl, rfl, .nl [.tmp 0 [] false 3 1] [.old 3] ⟨⟨rfl, rfl, trivial⟩, ⟨rfl, rfl, trivial⟩, rfl⟩⟩
  rw [show notB true = false by simp [notB]]
  obtain ⟨p0, pl, hf⟩ := hasP_lt hp
  obtain ⟨n, rfl⟩ : ∃ n : Nat, p = (n : Int) := ⟨p.toNat, by omega⟩
  rw [Int.toNat_natCast] at pl ⊢
  obtain ⟨hc, hl, ha⟩ := cpg_at hg
  obtain ⟨n0, n1⟩ := ha n (by omega)
  have hq := people4_h ps us 81 (famLV ps us) (.int .i64 (cpS ps n)) (rowSl g) (.int .i64 (cpC ps w g n)) (cpQ ps w g n) (fam_40 hf) (fun i hi => cp1_spec ps us g _ _ hi (by omega))
  have hgn := gA_get (g := g) (k := n) (by omega)
  have hwn := gA_get (g := w) (k := (gA g n).toNat) n1
  obtain ⟨x, hx, hs⟩ := sexA_get pl
  have hcp : cpC ps w g n = match eqI x.sex 2 with | true => ixW (gA g n) 0 w | false => gA w (gA g n).toNat := by unfold cpC; rw [hs]
  have hcs : cpS ps n = match eqI x.sex 2 with | true => 1 | false => 2 := by unfold cpS; rw [hs]
  rw [hcp, hcs] at hq
  generalize gA w (gA g n).toNat = wn at hwn hq
  obtain ⟨m, hm⟩ : ∃ m : Nat, gA g n = (m : Int) := ⟨(gA g n).toNat, by omega⟩
  rw [hm] at hgn hwn hq
  have hix := indexW_spec w (m : Int)
  rw [Int.toNat_natCast] at hwn
  unfold clsLV rowSl at *
  ((repeat ((conv => whnf); first | refine brT ?_ | refine brF ?_)); conv => whnf)
  refine ⟨false, 0, 0, 0, [0, 1, 2, 3, 4, 5, 6, 7], (.alt 8 (.one 9 (.one 10 (.one 11 .done))) (.one 9 (.one 8 (.one 10 (.one 11 .done))))), by kernel_rfl, ?_⟩
  ((repeat ((conv => whnf); first | refine brT ?_ | refine brF ?_)); conv => whnf)
  refine ⟨n, _, rfl, hgn, rfl, ?_⟩
  ((repeat ((conv => whnf); first | refine brT ?_ | refine brF ?_)); conv => whnf)
  refine ⟨m, _, rfl, hwn, rfl, ?_⟩
  ((repeat ((conv => whnf); first | refine brT ?_ | refine brF ?_)); conv => whnf)
  apply Exists.intro; apply Exists.intro
  refine And.intro ?_ ?_
  · ((repeat ((conv => whnf); first | refine brT ?_ | refine brF ?_)); conv => whnf)
    refine And.intro ?_ ?_
    · ((repeat ((conv => whnf); first | refine brT ?_ | refine brF ?_)); conv => whnf)
      refine Weak.idn ?_ ?_ rfl
      · ((repeat ((conv => whnf); refine ⟨rfl, ?_⟩)); trivial)
      · exact ⟨rfl, rfl, rfl, rfl, rfl, trivial⟩
    · ((repeat ((conv => whnf); first | refine brT ?_ | refine brF ?_)); conv => whnf)
      refine .inr ⟨[.old 0, .old 1, .old 2, .old 4, .old 3], ?_, ⟨rfl, rfl, rfl, rfl, rfl, rfl, rfl, rfl, rfl, rfl, trivial⟩, rfl⟩
      ((repeat ((conv => whnf); refine ⟨rfl, rfl, ?_⟩)); trivial)
  ((repeat ((conv => whnf); first | refine brT ?_ | refine brF ?_)); conv => whnf)
  refine ⟨n, x.lv, rfl, hx, rfl, ?_⟩
  ((repeat ((conv => whnf); first | refine brT ?_ | refine brF ?_)); conv => whnf)
  (refine ⟨fun h3 => ?_, fun h3 => ?_⟩ <;> rw [h3])
  · rw [h3] at hq
    ((repeat ((conv => whnf); first | refine brT ?_ | refine brF ?_)); conv => whnf)
    refine ⟨false, 7, by kernel_rfl, ?_⟩
    ((repeat ((conv => whnf); first | refine brT ?_ | refine brF ?_)); conv => whnf)
    refine ⟨n, _, rfl, hgn, rfl, ?_⟩
    ((repeat ((conv => whnf); first | refine brT ?_ | refine brF ?_)); conv => whnf)
    refine ⟨_, hix, ?_⟩
    ((repeat ((conv => whnf); first | refine brT ?_ | refine brF ?_)); conv => whnf)
    refine ⟨[], _, _, _, _, hq, rfl, rfl, rfl, ⟨rfl, flats_rowW _ _, trivial⟩, ?_⟩
    ((repeat ((conv => whnf); first | refine brT ?_ | refine brF ?_)); conv => whnf)
    exact ⟨[.hs 0 (rowW (cpQ ps w g n) ps.length).length], rfl, rfl, .inr ⟨[.old 5], ⟨rfl, rfl, trivial⟩, ⟨rfl, rfl, trivial⟩, rfl⟩⟩
  · rw [h3] at hq
    ((repeat ((conv => whnf); first | refine brT ?_ | refine brF ?_)); conv => whnf)
    refine ⟨[], _, _, _, _, hq, rfl, rfl, rfl, ⟨rfl, flats_rowW _ _, trivial⟩, ?_⟩
    ((repeat ((conv => whnf); first | refine brT ?_ | refine brF ?_)); conv => whnf)
    exact ⟨[.hs 0 (rowW (cpQ ps w g n) ps.length).length], rfl, rfl, .inr ⟨[.old 5], ⟨rfl, rfl, trivial⟩, ⟨rfl, rfl, trivial⟩, rfl⟩⟩
theorem spq_tt {a b c d e f : Bool} (hq : true = ((a && (b && c)) || (d && (e && f)))) : (a = true ∧ b = true ∧ c = true) ∨ (d = true ∧ e = true ∧ f = true) := by
  revert hq; cases a <;> cases b <;> cases c <;> cases d <;> cases e <;> cases f <;> decide
theorem cp_spec (ps : List Per) (us : List Uni) (w c g : List Int) (p : Int) (h1 : w.length ≤ 1048576) (h2 : c.length ≤ 1048576) :
    HSpec env.P 33 [famLV ps us, clsLV w c, rowSl g, .int .i64 p] [] (.hs 0 ((cpL ps us w c g p).map natLV).length) [.arr 3 1 ((cpL ps us w c g p).map natLV)] := by
  refine HSpec_of_code (E := env.x [] 0) env_ok.x (fn := Try.f33) Try.func33 rfl Try.call33 _ _ _ _ ?_
  unfold cpL
  ((repeat ((conv => whnf); first | refine brT ?_ | refine brF ?_)); conv => whnf)
  refine ⟨_, giv_spec ps us w c g 0 h1 h2, ?_⟩
  ((repeat ((conv => whnf); first | refine brT ?_ | refine brF ?_)); conv => whnf)
  cases hg : givB ps us w c g 0
  · rw [show notB false = true by simp [notB], Bool.and_false]
    ((repeat ((conv => whnf); first | refine brT ?_ | refine brF ?_)); conv => whnf)
    exact ⟨[.hs 0 0], rfl, rfl, .nl [.tmp 0 [] false 3 1] [.old 2] ⟨⟨rfl, rfl, trivial⟩, ⟨rfl, rfl, trivial⟩, rfl⟩⟩
  rw [show notB true = false by simp [notB]]
  ((repeat ((conv => whnf); first | refine brT ?_ | refine brF ?_)); conv => whnf)
  refine ⟨_, l1Has_spec ps us p, ?_⟩
  ((repeat ((conv => whnf); first | refine brT ?_ | refine brF ?_)); conv => whnf)
  cases hp : hasP ps us p
  · rw [show notB false = true by simp [notB]]
    ((repeat ((conv => whnf); first | refine brT ?_ | refine brF ?_)); conv => whnf)
    exact ⟨[.hs 0 0], rfl, rfl, .nl [.tmp 0 [] false 3 1] [.old 2] ⟨⟨rfl, rfl, trivial⟩, ⟨rfl, rfl, trivial⟩, rfl⟩⟩
  rw [show notB true = false by simp [notB]]
  obtain ⟨p0, pl, hf⟩ := hasP_lt hp
  obtain ⟨n, rfl⟩ : ∃ n : Nat, p = (n : Int) := ⟨p.toNat, by omega⟩
  rw [Int.toNat_natCast] at pl ⊢
  obtain ⟨hc, hl, ha⟩ := cpg_at hg
  obtain ⟨n0, n1⟩ := ha n (by omega)
  have h40 := fam_40 hf
  have hP : (ps.map Per.lv).length = ps.length := List.length_map ..
  have hp' : ps.length ≤ Go.maxLen := by unfold Go.maxLen; omega
  have hgn := gA_get (g := g) (k := n) (by omega)
  have hwn := gA_get (g := w) (k := (gA g n).toNat) n1
  obtain ⟨m, hm⟩ : ∃ m : Nat, gA g n = (m : Int) := ⟨(gA g n).toNat, by omega⟩
  have hq : ∀ k, k < ps.length → cpQ ps w g n k = ((eqI (sexA ps n) 1 && (eqI (sexA ps k) 2 && eqI (gA g k) (gA w (gA g n).toNat))) || (eqI (sexA ps n) 2 && (eqI (sexA ps k) 1 && eqI (gA w (gA g k).toNat) (gA g n)))) := fun k hk => cpQ_eq hf hg pl hk
  obtain ⟨x, hx, hs⟩ := sexA_get pl
  rw [← hs, hm] at hq
  rw [hm] at hgn hwn
  rw [Int.toNat_natCast] at hwn
  simp only [Int.toNat_natCast] at hq
  generalize cpQ ps w g n = q at hq ⊢
  generalize gA w m = wn at hwn hq
  unfold clsLV rowSl
  ((repeat ((conv => whnf); first | refine brT ?_ | refine brF ?_)); conv => whnf)
  intro _
  rw [hP]
  ((repeat ((conv => whnf); first | refine brT ?_ | refine brF ?_)); conv => whnf)
  refine loop_rule (α := Nat) (fun k => [(23, .undef), (27, .int .i64 (k : Int)), (9, .hs 2 (rowW q k).length)]) (fun k => [.box (famLV ps us), .box (.st [.sl (w.map intLV), .sl (c.map intLV)]), .arr 3 1 (rowW q k)]) (fun k => ps.length - k) (fun k => k ≤ ps.length) 0 (Nat.zero_le _) ?_ ?_
  · refine ⟨?_, ⟨rfl, rfl, rfl, trivial⟩, rfl, rfl⟩
    ((repeat ((conv => whnf); refine ⟨rfl, ?_⟩)); trivial)
  intro k hk
  generalize hK : kk _ = KK
  ((repeat ((conv => whnf); first | refine brT ?_ | refine brF ?_)); conv => whnf)
  (refine ⟨fun g1 => ?_, fun g1 => ?_⟩ <;> rw [g1])
  · have hlt : k < ps.length := by rw [ltI_t] at g1; omega
    have e := step_i hlt hp'
    have hw := wantL_succ q k
    have hwl := wantL_len q (k + 1)
    have hq := hq k hlt
    obtain ⟨y, hy, hys⟩ := sexA_get hlt
    rw [← hys] at hq
    have hgk := gA_get (g := g) (k := k) (by omega)
    obtain ⟨k0, k1⟩ := ha k (by omega)
    have hwk := gA_get (g := w) (k := (gA g k).toNat) k1
    obtain ⟨j, hj⟩ : ∃ j : Nat, gA g k = (j : Int) := ⟨(gA g k).toNat, by omega⟩
    rw [hj] at hq hgk hwk
    rw [Int.toNat_natCast] at hq hwk
    generalize gA w j = wj at hq hwk
    generalize q k = qk at hq hw
    ((repeat ((conv => whnf); first | refine brT ?_ | refine brF ?_)); conv => whnf)
    refine ⟨k, y.lv, rfl, hy, rfl, ?_⟩
    ((repeat ((conv => whnf); first | refine brT ?_ | refine brF ?_)); conv => whnf)
    refine ⟨true, by kernel_rfl, ?_⟩
    cases qk
    · rw [List.append_nil] at hw
      have e2 : rowW q k = rowW q (k + 1) := by
        unfold rowW; rw [hw]
      have e3 : LV.hs 2 (rowW q k).length = LV.hs 2 (rowW q (k + 1)).length := by rw [e2]
      repeat' (((repeat ((conv => whnf); first | refine brT ?_ | refine brF ?_)); conv => whnf); first
        | refine ⟨n, x.lv, rfl, hx, rfl, ?_⟩
        | refine ⟨k, _, rfl, hgk, rfl, ?_⟩
        | refine ⟨n, _, rfl, hgn, rfl, ?_⟩
        | refine ⟨m, _, rfl, hwn, rfl, ?_⟩
        | refine ⟨j, _, rfl, hwk, rfl, ?_⟩
        | (refine And.intro ?_ ?_ <;> (intro h; rw [h])))
      all_goals wk
      all_goals try (exfalso; clear hK e2 e3 hw hwl; simp_all; done)
      all_goals subst hK
      all_goals refine round_endR [.old 0, .old 1, .old 2] (k + 1) hlt (by omega) ⟨?_, ⟨rfl, rfl, rfl, rfl, rfl, congrArg (Blk.arr 3 1) e2, trivial⟩, rfl⟩
      all_goals (repeat ((conv => whnf); first | refine ⟨rfl, e, ?_⟩ | refine ⟨rfl, e3, ?_⟩ | refine ⟨rfl, rfl, ?_⟩))
      all_goals trivial
    · have e2 : rowW q k ++ [LV.int .i64 (k : Int)] = rowW q (k + 1) := by
        unfold rowW; rw [hw, List.map_append]; rfl
      have hl1 : (rowW q (k + 1)).length ≤ k + 1 := by
        unfold rowW; rw [List.length_map]; exact hwl
      have m1 : (rowW q k ++ [LV.int .i64 (k : Int)]).length ≤ Go.maxLen := by
        rw [e2]; unfold Go.maxLen; omega
      have m2 : (rowW q k ++ [LV.int .i64 (k : Int)]).length * 8 ≤ 140737488355328 := by
        rw [e2]; omega
      rcases spq_tt hq with ⟨ha, hb, hc'⟩ | ⟨ha, hb, hc'⟩
      · repeat' (((repeat ((conv => whnf); first | refine brT ?_ | refine brF ?_)); conv => whnf); first
          | refine ⟨n, x.lv, rfl, hx, rfl, ?_⟩
          | refine ⟨k, _, rfl, hgk, rfl, ?_⟩
          | refine ⟨n, _, rfl, hgn, rfl, ?_⟩
          | refine ⟨m, _, rfl, hwn, rfl, ?_⟩
          | refine ⟨j, _, rfl, hwk, rfl, ?_⟩
          | (refine And.intro ?_ ?_ <;> (intro h; first | (rw [ha] at h; cases h; done) | (rw [hb] at h; cases h; done) | (rw [hc'] at h; cases h; done) | rw [h])))
        all_goals wk
        refine ⟨rfl, rfl, m1, m2, ?_⟩
        rw [e2]
        ((repeat ((conv => whnf); first | refine brT ?_ | refine brF ?_)); conv => whnf)
        subst hK
        refine round_endR [.old 0, .old 1, .old 5] (k + 1) hlt (by omega) ⟨?_, ⟨rfl, rfl, rfl, rfl, rfl, rfl, trivial⟩, rfl⟩
        ((repeat ((conv => whnf); first | refine ⟨rfl, e, ?_⟩ | refine ⟨rfl, rfl, ?_⟩)); trivial)
      · have hd : eqI x.sex 1 = false := by
          rw [eqI_t] at ha; rw [eqI_f, ha]; omega
        repeat' (((repeat ((conv => whnf); first | refine brT ?_ | refine brF ?_)); conv => whnf); first
          | refine ⟨n, x.lv, rfl, hx, rfl, ?_⟩
          | refine ⟨k, _, rfl, hgk, rfl, ?_⟩
          | refine ⟨n, _, rfl, hgn, rfl, ?_⟩
          | refine ⟨m, _, rfl, hwn, rfl, ?_⟩
          | refine ⟨j, _, rfl, hwk, rfl, ?_⟩
          | (refine And.intro ?_ ?_ <;> (intro h; first | (rw [hd] at h; cases h; done) | (rw [ha] at h; cases h; done) | (rw [hb] at h; cases h; done) | (rw [hc'] at h; cases h; done) | rw [h])))
        all_goals wk
        refine ⟨rfl, rfl, m1, m2, ?_⟩
        rw [e2]
        ((repeat ((conv => whnf); first | refine brT ?_ | refine brF ?_)); conv => whnf)
        subst hK
        refine round_endR [.old 0, .old 1, .old 5] (k + 1) hlt (by omega) ⟨?_, ⟨rfl, rfl, rfl, rfl, rfl, rfl, trivial⟩, rfl⟩
        ((repeat ((conv => whnf); first | refine ⟨rfl, e, ?_⟩ | refine ⟨rfl, rfl, ?_⟩)); trivial)
  · have h4 : k = ps.length := by rw [ltI_f] at g1; omega
    subst h4
    subst hK
    ((repeat ((conv => whnf); first | refine brT ?_ | refine brF ?_)); conv => whnf)
    exact ⟨[.hs 0 (rowW q ps.length).length], rfl, rfl, .inr ⟨[.old 2], ⟨rfl, rfl, trivial⟩, ⟨rfl, rfl, trivial⟩, rfl⟩⟩
theorem cpL_len (ps : List Per) (us : List Uni) (w c g : List Int) (p : Int) : (cpL ps us w c g p).length ≤ 40 := by
  unfold cpL
  split
  · rename_i h
    have := fam_40 (hasP_lt (Bool.and_eq_true_iff.1 h).1).2.2
    exact Nat.le_trans (wantL_len _ _) this
  · simp
end Go.Proofs.Ytgkjafmmekjjlaa

