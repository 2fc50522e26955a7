/- Contracts of functions of the program and of its model, told over readings. -/
import Derived.Test.YtbiagkccgijdlaaEWGB
import Derived.Test.YtbiagkccgijdlaaELgSO
import Derived.Shelf.SlSortCmp.NoneTotal
import Derived.Test.YtbiagkccgijdlaaChecked
import Derived.Test.YtbiagkccgijdlaaEWGA
import Derived.WalkKit
import Derived.Lib.Walk
import Derived.Laws.Bits64b
import Derived.Laws.CopyOwn
import Derived.Deep.RegionLaw
import Derived.Deep.LoopGhost
import Derived.Deep.OwnRows
import Derived.Deep.RegionHeld
import Derived.KernelRfl
import Derived.OwnWalk
import Derived.Test.YtbiagkccgijdlaaELgRN
import Derived.Test.YtbiagkccgijdlaaELgRM
namespace Go.Proofs.Ytbiagkccgijdlaa
open Go.Lg
set_option maxHeartbeats 1600000
set_option maxRecDepth 10000
set_option linter.unusedVariables false
set_option linter.unusedSimpArgs false

theorem Weak.idn {n0 : Nat} {ts : List LV} {H : List Blk} (h1 : wk ts ts) (h2 : wkH n0 H H) (h3 : (scs (below H.length) ts && H.all (scB (below H.length))) = true) : Weak n0 ts H ts H := by
  simp only [Bool.and_eq_true] at h3
  exact .inl ⟨h1, h2, h3.1, h3.2⟩

end Go.Proofs.Ytbiagkccgijdlaa

namespace Go.Proofs.Ytbiagkccgijdlaa
open Go.Lg Go.Pm
set_option maxHeartbeats 6400000
set_option maxRecDepth 10000
set_option linter.unusedVariables false
set_option linter.unusedSimpArgs false

/-! ### Types as permutations -/
theorem idx {q : List Int} {y : Int} (e1 : 0 ≤ y) (e2 : y.toNat < q.length) : y = ((y.toNat : Nat) : Int) ∧ (q.map intLV)[y.toNat]? = some (intLV (q.getD y.toNat 0)) :=
  ⟨by omega, by rw [List.getElem?_map, List.getElem?_eq_getElem e2, getD_lt e2]; rfl⟩
end Go.Proofs.Ytbiagkccgijdlaa


namespace Go.Proofs.Ytbiagkccgijdlaa
open Go.Lg Go.Pm
set_option maxHeartbeats 3200000
set_option maxRecDepth 10000
set_option linter.unusedVariables false
set_option linter.unusedSimpArgs false

/-! ### Founders -/
end Go.Proofs.Ytbiagkccgijdlaa

namespace Go.Proofs.Ytbiagkccgijdlaa
open Go.Lg Go.Pm
set_option maxHeartbeats 3200000
set_option maxRecDepth 10000
set_option linter.unusedVariables false
set_option linter.unusedSimpArgs false

theorem hasP_in {ps : List Per} {us : List Uni} {p : Int} (h : hasP ps us p = true) : 0 ≤ p ∧ p.toNat < ps.length ∧ ps.length ≤ 40 ∧ parsIn ps := by
  obtain ⟨h0, h1, h2⟩ := hasP_lt h
  obtain ⟨k1, _, k2, _⟩ := famOk_parts h2
  exact ⟨h0, h1, k1, parsIn_of k2⟩
end Go.Proofs.Ytbiagkccgijdlaa

namespace Go.Proofs.Ytbiagkccgijdlaa
open Go.Lg
set_option maxHeartbeats 800000
set_option maxRecDepth 10000
set_option linter.unusedVariables false
set_option linter.unusedSimpArgs false

/-! UnionEnd -/
/-- The union's two persons are of the family. -/
structure UniIn (ps : List Per) (u : Uni) : Prop where
  m0 : 0 ≤ u.husband
  ml : u.husband.toNat < ps.length
  w0 : 0 ≤ u.wife
  wl : u.wife.toNat < ps.length
/-- Years are years. -/
structure UniYears (ps : List Per) (u : Uni) (h : UniIn ps u) : Prop where
  t : u.till = -1 ∨ 0 ≤ u.till
  m : (ps[u.husband.toNat]'h.ml).died = -1 ∨ 0 ≤ (ps[u.husband.toNat]'h.ml).died
  w : (ps[u.wife.toNat]'h.wl).died = -1 ∨ 0 ≤ (ps[u.wife.toNat]'h.wl).died

end Go.Proofs.Ytbiagkccgijdlaa

namespace Go.Proofs.Ytbiagkccgijdlaa
open Go.Lg Go.Pm
set_option maxHeartbeats 3200000
set_option maxRecDepth 10000
set_option linter.unusedVariables false
set_option linter.unusedSimpArgs false

/-! ### Exogamy -/
end Go.Proofs.Ytbiagkccgijdlaa

namespace Go.Proofs.Ytbiagkccgijdlaa
open Go.Lg Go.Pm
set_option maxHeartbeats 3200000
set_option maxRecDepth 10000
set_option linter.unusedVariables false
set_option linter.unusedSimpArgs false

/-! ### The eldest first -/
def bornD (ps : List Per) (a : Nat) : Int := match ps[a]? with | some p => p.born | none => 0
def elT (ps : List Per) (a b : Nat) : Bool := decide (bornD ps a < bornD ps b ∨ (bornD ps a = bornD ps b ∧ a < b))
theorem elT_t {ps : List Per} {a b : Nat} : elT ps a b = true ↔ bornD ps a < bornD ps b ∨ (bornD ps a = bornD ps b ∧ a < b) := by unfold elT; simp
theorem elT_f {ps : List Per} {a b : Nat} : elT ps a b = false ↔ ¬ (bornD ps a < bornD ps b ∨ (bornD ps a = bornD ps b ∧ a < b)) := by unfold elT; simp
theorem elder_T {ps : List Per} {a b : Nat} (ha : a < ps.length) (hb : b < ps.length) : elder ps (a : Int) (b : Int) = elT ps a b := by
  rw [Bool.eq_iff_iff, elT_t]
  simp only [elder, bornD, Int.toNat_natCast, List.getElem?_eq_getElem ha, List.getElem?_eq_getElem hb, Bool.or_eq_true, Bool.and_eq_true, ltI_t, eqI_t]
  omega
theorem elT_on (ps : List Per) (N : Nat) : LtOn N (elT ps) where
  irr x _ := by rw [elT_f]; omega
  tr x y z _ _ _ h k := by rw [elT_t] at *; omega
  nt x y z _ _ _ h k := by rw [elT_f] at *; omega
  tot x y _ _ h k := by rw [elT_f] at *; omega
def wantL (q : Nat → Bool) (n : Nat) : List Nat := (List.range n).filter q
theorem wantL_succ (q : Nat → Bool) (n : Nat) : wantL q (n + 1) = wantL q n ++ (match q n with | true => [n] | false => []) := by
  unfold wantL
  rw [List.range_succ, List.filter_append]
  congr 1
theorem wantL_lt {q : Nat → Bool} {n x : Nat} (h : x ∈ wantL q n) : x < n := List.mem_range.1 (List.mem_filter.1 h).1
theorem wantL_len (q : Nat → Bool) (n : Nat) : (wantL q n).length ≤ n := by
  unfold wantL; exact Nat.le_trans (List.length_filter_le _ _) (by simp)
theorem wantL_ext {q q' : Nat → Bool} {n : Nat} (h : ∀ i, i < n → q i = q' i) : wantL q n = wantL q' n := List.filter_congr fun i hi => h i (List.mem_range.1 hi)
def eldL (ps : List Per) (q : Nat → Bool) (n : Nat) : List Nat := (wantL q n).mergeSort fun a b => !elT ps b a
theorem eldL_len (ps : List Per) (q : Nat → Bool) (n : Nat) : (eldL ps q n).length ≤ n := by unfold eldL; rw [List.length_mergeSort]; exact wantL_len q n
/-- A person in the place among others. -/
def insA (ps : List Per) (p : Nat) : List Nat → List Nat
  | [] => [p]
  | q :: qs => match elT ps p q with | true => p :: q :: qs | false => q :: insA ps p qs
theorem insA_len (ps : List Per) (p : Nat) : ∀ l, (insA ps p l).length = l.length + 1
  | [] => rfl
  | q :: qs => by
    unfold insA
    split
    · rfl
    · simp [insA_len ps p qs]
theorem insA_yes {ps : List Per} {p : Nat} : ∀ (l m : List Nat), l.any (elT ps p) = true → insA ps p (l ++ m) = insA ps p l ++ m
  | [], m, h => by simp at h
  | q :: qs, m, h => by
    simp only [List.cons_append, insA]
    cases e : elT ps p q
    · rw [List.any_cons, e, Bool.false_or] at h
      simp only [List.cons_append, insA_yes qs m h]
    · rfl
theorem insA_no {ps : List Per} {p : Nat} : ∀ (l m : List Nat), l.any (elT ps p) = false → insA ps p (l ++ m) = l ++ insA ps p m
  | [], m, h => rfl
  | q :: qs, m, h => by
    rw [List.any_cons, Bool.or_eq_false_iff] at h
    simp only [List.cons_append, insA, h.1, insA_no qs m h.2]
theorem insA_perm {ps : List Per} {p : Nat} : ∀ l, (insA ps p l).Perm (p :: l)
  | [] => .refl _
  | q :: qs => by
    unfold insA
    split
    · exact .refl _
    · exact ((insA_perm qs).cons q).trans (.swap _ _ _)
theorem insA_pw {ps : List Per} {p : Nat} : ∀ l, l.Pairwise (fun a b => elT ps a b = true) → (∀ q ∈ l, q ≠ p) → (insA ps p l).Pairwise (fun a b => elT ps a b = true)
  | [], _, _ => by simp [insA]
  | q :: qs, h, hne => by
    rw [List.pairwise_cons] at h
    unfold insA
    split
    · rename_i e
      rw [List.pairwise_cons, List.pairwise_cons]
      refine ⟨fun x hx => ?_, h.1, h.2⟩
      rcases List.mem_cons.1 hx with rfl | hx
      · exact e
      · have k := h.1 x hx
        rw [elT_t] at *; omega
    · rename_i e
      rw [List.pairwise_cons]
      refine ⟨fun x hx => ?_, insA_pw qs h.2 fun y hy => hne y (by simp [hy])⟩
      rcases List.mem_cons.1 ((insA_perm qs).mem_iff.1 hx) with rfl | hx
      · have k := hne q (by simp)
        rw [elT_f] at e
        rw [elT_t]; omega
      · exact h.1 x hx
/-- The persons that are wanted, put in their places one by one. -/
def bySt (ps : List Per) (q : Nat → Bool) : Nat → List Nat
  | 0 => []
  | k + 1 => match q k with | true => insA ps k (bySt ps q k) | false => bySt ps q k
theorem bySt_perm (ps : List Per) (q : Nat → Bool) : ∀ k, (bySt ps q k).Perm (wantL q k)
  | 0 => by simp [bySt, wantL]
  | k + 1 => by
    rw [wantL_succ]
    unfold bySt
    cases h : q k
    · simpa using bySt_perm ps q k
    · exact (insA_perm _).trans (((bySt_perm ps q k).cons k).trans (List.perm_append_comm (l₁ := [k])))
theorem bySt_pw (ps : List Per) (q : Nat → Bool) : ∀ k, (bySt ps q k).Pairwise (fun a b => elT ps a b = true)
  | 0 => by simp [bySt]
  | k + 1 => by
    unfold bySt
    split
    · refine insA_pw _ (bySt_pw ps q k) fun x hx => ?_
      have := wantL_lt ((bySt_perm ps q k).mem_iff.1 hx)
      omega
    · exact bySt_pw ps q k
theorem wantL_nodup (q : Nat → Bool) (n : Nat) : (wantL q n).Nodup := List.Nodup.sublist List.filter_sublist List.nodup_range
theorem bySt_eld (ps : List Per) (q : Nat → Bool) (n : Nat) : bySt ps q n = eldL ps q n := by
  have h1 := bySt_pw ps q n
  have h2 : (eldL ps q n).Pairwise (fun a b => elT ps a b = true) := by
    have hp := List.pairwise_mergeSort (le := fun a b => !elT ps b a) (fun a b c h k => by
      simp only [Bool.not_eq_true'] at *
      rw [elT_f] at *; omega) (fun a b => by
      simp only [Bool.or_eq_true, Bool.not_eq_true']
      rw [elT_f, elT_f]; omega) (wantL q n)
    have hn : (eldL ps q n).Nodup := (List.mergeSort_perm _ _).nodup_iff.2 (wantL_nodup q n)
    refine (List.Pairwise.and hp hn).imp fun {a b} h => ?_
    simp only [Bool.not_eq_true'] at h
    obtain ⟨h, hne⟩ := h
    rw [elT_f] at h
    rw [elT_t]; omega
  refine List.Perm.eq_of_pairwise (le := fun a b => elT ps a b = true) (fun a b _ _ h k => ?_) h1 h2 ((bySt_perm ps q n).trans (List.mergeSort_perm _ _).symm)
  rw [elT_t] at h k; omega
theorem bySt_len (ps : List Per) (q : Nat → Bool) (k : Nat) : (bySt ps q k).length ≤ k := by rw [(bySt_perm ps q k).length_eq]; exact wantL_len q k
theorem bySt_lt {ps : List Per} {q : Nat → Bool} {k x : Nat} (h : x ∈ bySt ps q k) : x < k := wantL_lt ((bySt_perm ps q k).mem_iff.1 h)
def outA (ps : List Per) (p : Nat) (l : List Nat) (k : Nat) : List Nat := match (l.take k).any (elT ps p) with | true => insA ps p (l.take k) | false => l.take k
theorem outA_len (ps : List Per) (p : Nat) (l : List Nat) (k : Nat) : (outA ps p l k).length ≤ k + 1 := by
  unfold outA
  split
  · rw [insA_len]; simp; omega
  · simp; omega
theorem nats_len (l : List Nat) : (l.map natLV).length = l.length := List.length_map ..
def natsSl (l : List Nat) : LV := .sl (l.map natLV)
theorem l1ByAge_h (ps : List Per) (us : List Uni) (l : List Nat) (p : Nat) (hp : p < ps.length) (hl : ∀ q ∈ l, q < ps.length) (hb : l.length ≤ 1048576) :
    HSpec env.P 115 [famLV ps us, natsSl l, .int .i64 (p : Int)] [] (.hs 0 ((insA ps p l).map natLV).length) [.arr 3 1 ((insA ps p l).map natLV)] := by
  refine HSpec_of_code (E := env.x [] 0) env_ok.x (fn := Try.f115) Try.func115 rfl Try.call115 _ _ _ _ ?_
  have hL := nats_len l
  ((repeat ((conv => whnf); first | refine brT ?_ | refine brF ?_)); conv => whnf)
  intro hm
  have hm' : l.length ≤ Go.maxLen := by rw [← hL]; exact hm
  ((repeat ((conv => whnf); first | refine brT ?_ | refine brF ?_)); conv => whnf)
  refine loop_ruleR (α := Nat) [.old 0, .old 1] (fun k => [(14, .int .i64 (k : Int)), (11, .undef), (8, .bool ((l.take k).any (elT ps p))), (7, .hs 1 ((outA ps p l k).map natLV).length)])
    (fun k => [.box (famLV ps us), .arr 3 1 ((outA ps p l k).map natLV)]) (fun k => l.length - k) (fun k => k ≤ l.length) 0 (Nat.zero_le _) ?_ ?_
  · refine ⟨?_, ⟨rfl, rfl, rfl, rfl, trivial⟩, rfl⟩
    ((repeat ((conv => whnf); refine ⟨rfl, rfl, ?_⟩)); trivial)
  intro k hk
  generalize hK : kk _ = KK
  ((repeat ((conv => whnf); first | refine brT ?_ | refine brF ?_)); conv => whnf)
  (refine ⟨fun g1 => ?_, fun g1 => ?_⟩ <;> rw [g1])
  · have hlt : k < l.length := by rw [ltI_t] at g1; omega
    have e := step_i hlt hm'
    have hq := hl l[k] (List.getElem_mem hlt)
    have htk : l.take (k + 1) = l.take k ++ [l[k]] := List.take_succ_eq_append_getElem hlt
    have hol := outA_len ps p l (k + 1)
    have hol0 := outA_len ps p l k
    have hel := l1Elder_spec ps us (p : Int) (l[k] : Int) (by omega) (by simpa using hp) (by omega) (by simpa using hq)
    rw [elder_T hp hq] at hel
    ((repeat ((conv => whnf); first | refine brT ?_ | refine brF ?_)); conv => whnf)
    refine ⟨k, natLV l[k], rfl, by simp [hlt], rfl, ?_⟩
    cases hd : (l.take k).any (elT ps p)
    · have ho : outA ps p l k = l.take k := by unfold outA; rw [hd]
      ((repeat ((conv => whnf); first | refine brT ?_ | refine brF ?_)); conv => whnf)
      rw [show notB false = true by simp [notB]]
      ((repeat ((conv => whnf); first | refine brT ?_ | refine brF ?_)); conv => whnf)
      refine ⟨_, hel, ?_⟩
      ((repeat ((conv => whnf); first | refine brT ?_ | refine brF ?_)); conv => whnf)
      (refine ⟨fun g2 => ?_, fun g2 => ?_⟩ <;> rw [g2])
      · have hd' : (l.take (k + 1)).any (elT ps p) = true := by rw [htk, List.any_append, hd]; simp [g2]
        have ho' : outA ps p l (k + 1) = l.take k ++ [p, l[k]] := by
          unfold outA; rw [hd', htk]; simp only
          rw [insA_no _ _ hd]; simp [insA, g2]
        have e1 : (l.take k).map natLV ++ [LV.int .i64 (p : Int)] = (l.take k ++ [p]).map natLV := by simp [natLV]
        have e2 : (l.take k ++ [p]).map natLV ++ [LV.int .i64 (l[k] : Int)] = (outA ps p l (k + 1)).map natLV := by rw [ho']; simp [natLV]
        rw [ho]
        ((repeat ((conv => whnf); first | refine brT ?_ | refine brF ?_)); conv => whnf)
        refine ⟨rfl, rfl, ?_, ?_, ?_⟩
        · rw [e1]; simp; unfold Go.maxLen; omega
        · rw [e1]; show ((l.take k ++ [p]).map natLV).length * 8 ≤ _; simp; omega
        rw [e1]
        ((repeat ((conv => whnf); first | refine brT ?_ | refine brF ?_)); conv => whnf)
        refine ⟨rfl, rfl, ?_, ?_, ?_⟩
        · rw [e2, nats_len]; unfold Go.maxLen; omega
        · rw [e2]; show ((outA ps p l (k + 1)).map natLV).length * 8 ≤ _; rw [nats_len]; omega
        rw [e2]
        ((repeat ((conv => whnf); first | refine brT ?_ | refine brF ?_)); conv => whnf)
        subst hK
        have e8 : LV.bool true = LV.bool ((l.take (k + 1)).any (elT ps p)) := by rw [hd']
        refine round_endR [.old 0, .old 5] (k + 1) hlt (by omega) ⟨?_, ⟨rfl, rfl, rfl, rfl, trivial⟩, rfl⟩
        repeat ((conv => whnf); first | refine ⟨rfl, e, ?_⟩ | refine ⟨rfl, e8, ?_⟩ | refine ⟨rfl, rfl, ?_⟩)
        trivial
      · have hd' : (l.take (k + 1)).any (elT ps p) = false := by rw [htk, List.any_append, hd]; simp [g2]
        have ho' : outA ps p l (k + 1) = l.take k ++ [l[k]] := by unfold outA; rw [hd']; simp only; exact htk
        have e2 : (l.take k).map natLV ++ [LV.int .i64 (l[k] : Int)] = (outA ps p l (k + 1)).map natLV := by rw [ho', List.map_append]; rfl
        rw [ho]
        ((repeat ((conv => whnf); first | refine brT ?_ | refine brF ?_)); conv => whnf)
        refine ⟨rfl, rfl, ?_, ?_, ?_⟩
        · rw [e2, nats_len]; unfold Go.maxLen; omega
        · rw [e2]; show ((outA ps p l (k + 1)).map natLV).length * 8 ≤ _; rw [nats_len]; omega
        rw [e2]
        ((repeat ((conv => whnf); first | refine brT ?_ | refine brF ?_)); conv => whnf)
        subst hK
        have e8 : LV.bool false = LV.bool ((l.take (k + 1)).any (elT ps p)) := by rw [hd']
        refine round_endR [.old 0, .old 3] (k + 1) hlt (by omega) ⟨?_, ⟨rfl, rfl, rfl, rfl, trivial⟩, rfl⟩
        repeat ((conv => whnf); first | refine ⟨rfl, e, ?_⟩ | refine ⟨rfl, e8, ?_⟩ | refine ⟨rfl, rfl, ?_⟩)
        trivial
    · have hd' : (l.take (k + 1)).any (elT ps p) = true := by rw [htk, List.any_append, hd]; simp
      have ho : outA ps p l k = insA ps p (l.take k) := by unfold outA; rw [hd]
      have ho' : outA ps p l (k + 1) = insA ps p (l.take k) ++ [l[k]] := by
        unfold outA; rw [hd', htk]; simp only
        rw [insA_yes _ _ hd]
      have e2 : (insA ps p (l.take k)).map natLV ++ [LV.int .i64 (l[k] : Int)] = (outA ps p l (k + 1)).map natLV := by rw [ho']; simp [natLV]
      ((repeat ((conv => whnf); first | refine brT ?_ | refine brF ?_)); conv => whnf)
      rw [show notB true = false by simp [notB]]
      rw [ho]
      ((repeat ((conv => whnf); first | refine brT ?_ | refine brF ?_)); conv => whnf)
      refine ⟨rfl, rfl, ?_, ?_, ?_⟩
      · rw [e2, nats_len]; unfold Go.maxLen; omega
      · rw [e2]; show ((outA ps p l (k + 1)).map natLV).length * 8 ≤ _; rw [nats_len]; omega
      rw [e2]
      ((repeat ((conv => whnf); first | refine brT ?_ | refine brF ?_)); conv => whnf)
      subst hK
      have e8 : LV.bool true = LV.bool ((l.take (k + 1)).any (elT ps p)) := by rw [hd']
      refine round_endR [.old 0, .old 3] (k + 1) hlt (by omega) ⟨?_, ⟨rfl, rfl, rfl, rfl, trivial⟩, rfl⟩
      repeat ((conv => whnf); first | refine ⟨rfl, e, ?_⟩ | refine ⟨rfl, e8, ?_⟩ | refine ⟨rfl, rfl, ?_⟩)
      trivial
  have h4 : k = l.length := by rw [ltI_f] at g1; omega
  subst h4
  subst hK
  ((repeat ((conv => whnf); first | refine brT ?_ | refine brF ?_)); conv => whnf)
  cases hd : (l.take l.length).any (elT ps p)
  · have ho : outA ps p l l.length = l := by unfold outA; rw [hd]; simp
    have hi : insA ps p l = l ++ [p] := by
      rw [List.take_length] at hd
      have := insA_no l [] hd
      rw [List.append_nil] at this
      rw [this]; rfl
    have e1 : l.map natLV ++ [LV.int .i64 (p : Int)] = (insA ps p l).map natLV := by rw [hi]; simp [natLV]
    rw [show notB false = true by simp [notB], ho]
    ((repeat ((conv => whnf); first | refine brT ?_ | refine brF ?_)); conv => whnf)
    refine ⟨rfl, rfl, ?_, ?_, ?_⟩
    · rw [e1, nats_len, insA_len]; unfold Go.maxLen; omega
    · rw [e1]; show ((insA ps p l).map natLV).length * 8 ≤ _; rw [nats_len, insA_len]; omega
    rw [e1]
    ((repeat ((conv => whnf); first | refine brT ?_ | refine brF ?_)); conv => whnf)
    exact ⟨[.hs 0 ((insA ps p l).map natLV).length], rfl, rfl, .inr ⟨[.old 3], ⟨rfl, rfl, trivial⟩, ⟨rfl, rfl, trivial⟩, rfl⟩⟩
  · have ho : outA ps p l l.length = insA ps p l := by unfold outA; rw [hd, List.take_length]
    rw [show notB true = false by simp [notB], ho]
    ((repeat ((conv => whnf); first | refine brT ?_ | refine brF ?_)); conv => whnf)
    exact ⟨[.hs 0 ((insA ps p l).map natLV).length], rfl, rfl, .inr ⟨[.old 1], ⟨rfl, rfl, trivial⟩, ⟨rfl, rfl, trivial⟩, rfl⟩⟩
end Go.Proofs.Ytbiagkccgijdlaa


namespace Go.Proofs.Ytbiagkccgijdlaa
open Go.Shelf
set_option maxRecDepth 10000
set_option linter.unusedVariables false

/-- The library's sort by a comparing function, as this program holds it: which of its functions and types stand where. -/
def sortL_ren : Go.Shelf.Ren := ⟨fun | 6 => 111 | 15 => 133 | 14 => 132 | 28 => 155 | 29 => 156 | 20 => 147 | 21 => 148 | 22 => 149 | 23 => 150 | 24 => 151 | 25 => 152 | 26 => 153 | 27 => 154 | 46 => 159 | 47 => 160 | 48 => 161 | 49 => 162 | 50 => 163 | 57 => 165 | n => n, fun | 22 => 38 | 24 => 3 | 25 => 126 | 3 => 3 | 39 => 147 | 0 => 0 | 53 => 163 | 55 => 85 | 4 => 4 | 46 => 157 | 45 => 156 | 50 => 52 | 5 => 5 | 9 => 9 | 66 => 167 | 70 => 171 | 76 => 174 | 77 => 175 | n => n, fun | n => n⟩
theorem sortL : Go.Proofs.SlLaysF.n6 Try.prog sortL_ren := {
  mixed := by kernel_rfl
  f6 := ⟨Try.f111.name, by decide, Try.func111.trans (congrArg some (by kernel_rfl))⟩
  f14 := ⟨Try.f132.name, by decide, Try.func132.trans (congrArg some (by kernel_rfl))⟩
  f15 := Try.func133.trans (congrArg some (by kernel_rfl))
  f20 := ⟨Try.f147.name, by decide, Try.func147.trans (congrArg some (by kernel_rfl))⟩
  f21 := ⟨Try.f148.name, by decide, Try.func148.trans (congrArg some (by kernel_rfl))⟩
  f22 := ⟨Try.f149.name, by decide, Try.func149.trans (congrArg some (by kernel_rfl))⟩
  f23 := ⟨Try.f150.name, by decide, Try.func150.trans (congrArg some (by kernel_rfl))⟩
  f24 := ⟨Try.f151.name, by decide, Try.func151.trans (congrArg some (by kernel_rfl))⟩
  f25 := ⟨Try.f152.name, by decide, Try.func152.trans (congrArg some (by kernel_rfl))⟩
  f26 := ⟨Try.f153.name, by decide, Try.func153.trans (congrArg some (by kernel_rfl))⟩
  f27 := ⟨Try.f154.name, by decide, Try.func154.trans (congrArg some (by kernel_rfl))⟩
  f28 := Try.func155.trans (congrArg some (by kernel_rfl))
  f29 := Try.func156.trans (congrArg some (by kernel_rfl))
  f46 := ⟨Try.f159.name, by decide, Try.func159.trans (congrArg some (by kernel_rfl))⟩
  f47 := Try.func160.trans (congrArg some (by kernel_rfl))
  f48 := Try.func161.trans (congrArg some (by kernel_rfl))
  f49 := ⟨Try.f162.name, by decide, Try.func162.trans (congrArg some (by kernel_rfl))⟩
  f50 := ⟨Try.f163.name, by decide, Try.func163.trans (congrArg some (by kernel_rfl))⟩
  f57 := ⟨Try.f165.name, by decide, Try.func165.trans (congrArg some (by kernel_rfl))⟩
  t0 := Try.underlying0
  a0 := Try.isAgg0
  z0 := Try.sizeOf0
  v0 := Try.zeroValue0
  t3 := Try.underlying3
  a3 := Try.isAgg3
  z3 := Try.sizeOf3
  v3 := Try.zeroValue3
  t4 := Try.underlying4
  a4 := Try.isAgg4
  z4 := Try.sizeOf4
  v4 := Try.zeroValue4
  t5 := Try.underlying5
  a5 := Try.isAgg5
  z5 := Try.sizeOf5
  v5 := Try.zeroValue5
  t9 := Try.underlying9
  a9 := Try.isAgg9
  z9 := Try.sizeOf9
  v9 := Try.zeroValue9
  t22 := Try.underlying38
  a22 := Try.isAgg38
  z22 := Try.sizeOf38
  v22 := Try.zeroValue38
  a24 := Try.isAgg3
  z24 := Try.sizeOf3
  t25 := Try.underlying126
  a25 := Try.isAgg126
  z25 := Try.sizeOf126
  v25 := Try.zeroValue126
  t39 := Try.underlying147
  a39 := Try.isAgg147
  z39 := Try.sizeOf147
  v39 := Try.zeroValue147
  t45 := Try.underlying156
  a45 := Try.isAgg156
  z45 := Try.sizeOf156
  v45 := Try.zeroValue156
  t46 := Try.underlying157
  a46 := Try.isAgg157
  z46 := Try.sizeOf157
  v46 := Try.zeroValue157
  t50 := Try.underlying52
  a50 := Try.isAgg52
  z50 := Try.sizeOf52
  v50 := Try.zeroValue52
  t53 := Try.underlying163
  a53 := Try.isAgg163
  z53 := Try.sizeOf163
  v53 := Try.zeroValue163
  t55 := Try.underlying85
  a55 := Try.isAgg85
  z55 := Try.sizeOf85
  v55 := Try.zeroValue85
  t66 := Try.underlying167
  a66 := Try.isAgg167
  z66 := Try.sizeOf167
  v66 := Try.zeroValue167
  t70 := Try.underlying171
  a70 := Try.isAgg171
  z70 := Try.sizeOf171
  v70 := Try.zeroValue171
  t76 := Try.underlying174
  a76 := Try.isAgg174
  z76 := Try.sizeOf174
  v76 := Try.zeroValue174
  t77 := Try.underlying175
  a77 := Try.isAgg175
  z77 := Try.sizeOf175
  v77 := Try.zeroValue175 }

end Go.Proofs.Ytbiagkccgijdlaa


namespace Go.Proofs.Ytbiagkccgijdlaa
open Go.Lg
set_option maxHeartbeats 1600000
set_option maxRecDepth 10000
set_option linter.unusedVariables false
set_option linter.unusedSimpArgs false

end Go.Proofs.Ytbiagkccgijdlaa

namespace Go.Proofs.Ytbiagkccgijdlaa
open Go.Lg
set_option maxHeartbeats 1600000
set_option maxRecDepth 10000
set_option linter.unusedVariables false
set_option linter.unusedSimpArgs false

end Go.Proofs.Ytbiagkccgijdlaa


namespace Go.Proofs.Ytbiagkccgijdlaa
open Go.Lg
set_option maxHeartbeats 1600000
set_option maxRecDepth 10000
set_option linter.unusedVariables false
set_option linter.unusedSimpArgs false

end Go.Proofs.Ytbiagkccgijdlaa


namespace Go.Proofs.Ytbiagkccgijdlaa
open Go.Lg
set_option maxHeartbeats 1600000
set_option maxRecDepth 10000
set_option linter.unusedVariables false
set_option linter.unusedSimpArgs false

end Go.Proofs.Ytbiagkccgijdlaa

namespace Go.Proofs.Ytbiagkccgijdlaa
open Go.Lg
set_option maxHeartbeats 1600000
set_option maxRecDepth 10000
set_option linter.unusedVariables false
set_option linter.unusedSimpArgs false

/-! A table that is filled row by row. -/
/-! ### Steps in a family, as the model has them -/
end Go.Proofs.Ytbiagkccgijdlaa


namespace Go.Proofs.Ytbiagkccgijdlaa
open Go.Lg
set_option maxHeartbeats 6400000
set_option maxRecDepth 10000
set_option linter.unusedVariables false
set_option linter.unusedSimpArgs false

end Go.Proofs.Ytbiagkccgijdlaa

namespace Go.Proofs.Ytbiagkccgijdlaa
open Go.Lg
set_option maxHeartbeats 6400000
set_option maxRecDepth 10000
set_option linter.unusedVariables false
set_option linter.unusedSimpArgs false

end Go.Proofs.Ytbiagkccgijdlaa

namespace Go.Proofs.Ytbiagkccgijdlaa
open Go.Lg
set_option maxHeartbeats 6400000
set_option maxRecDepth 10000
set_option linter.unusedVariables false
set_option linter.unusedSimpArgs false

end Go.Proofs.Ytbiagkccgijdlaa

namespace Go.Proofs.Ytbiagkccgijdlaa
open Go.Lg
set_option maxHeartbeats 6400000
set_option maxRecDepth 10000
set_option linter.unusedVariables false
set_option linter.unusedSimpArgs false

end Go.Proofs.Ytbiagkccgijdlaa

namespace Go.Proofs.Ytbiagkccgijdlaa
open Go.Lg
set_option maxHeartbeats 6400000
set_option maxRecDepth 10000
set_option linter.unusedVariables false
set_option linter.unusedSimpArgs false

end Go.Proofs.Ytbiagkccgijdlaa

namespace Go.Proofs.Ytbiagkccgijdlaa
open Go.Lg
set_option maxHeartbeats 6400000
set_option maxRecDepth 10000
set_option linter.unusedVariables false
set_option linter.unusedSimpArgs false

end Go.Proofs.Ytbiagkccgijdlaa

namespace Go.Proofs.Ytbiagkccgijdlaa
open Go.Lg
set_option maxHeartbeats 3200000
set_option maxRecDepth 10000
set_option linter.unusedVariables false
set_option linter.unusedSimpArgs false

end Go.Proofs.Ytbiagkccgijdlaa

namespace Go.Proofs.Ytbiagkccgijdlaa
open Go.Lg
set_option maxHeartbeats 3200000
set_option maxRecDepth 10000
set_option linter.unusedVariables false
set_option linter.unusedSimpArgs false

/-! ### Steps in a family, as the program has them -/
def chB (x : Per) (b : Int) : Bool := eqI x.father b || eqI x.mother b
end Go.Proofs.Ytbiagkccgijdlaa

namespace Go.Proofs.Ytbiagkccgijdlaa
open Go.Lg
set_option maxHeartbeats 3200000
set_option maxRecDepth 10000
set_option linter.unusedVariables false
set_option linter.unusedSimpArgs false

end Go.Proofs.Ytbiagkccgijdlaa

namespace Go.Proofs.Ytbiagkccgijdlaa
open Go.Lg
set_option maxHeartbeats 6400000
set_option maxRecDepth 10000
set_option linter.unusedVariables false
set_option linter.unusedSimpArgs false

end Go.Proofs.Ytbiagkccgijdlaa

namespace Go.Proofs.Ytbiagkccgijdlaa
open Go.Lg
set_option maxHeartbeats 6400000
set_option maxRecDepth 10000
set_option linter.unusedVariables false
set_option linter.unusedSimpArgs false

end Go.Proofs.Ytbiagkccgijdlaa

namespace Go.Proofs.Ytbiagkccgijdlaa
open Go.Lg
set_option maxHeartbeats 6400000
set_option maxRecDepth 10000
set_option linter.unusedVariables false
set_option linter.unusedSimpArgs false

end Go.Proofs.Ytbiagkccgijdlaa

namespace Go.Proofs.Ytbiagkccgijdlaa
open Go.Lg
set_option maxHeartbeats 6400000
set_option maxRecDepth 10000
set_option linter.unusedVariables false
set_option linter.unusedSimpArgs false

end Go.Proofs.Ytbiagkccgijdlaa

namespace Go.Proofs.Ytbiagkccgijdlaa
open Go.Lg
set_option maxHeartbeats 6400000
set_option maxRecDepth 10000
set_option linter.unusedVariables false
set_option linter.unusedSimpArgs false

end Go.Proofs.Ytbiagkccgijdlaa

namespace Go.Proofs.Ytbiagkccgijdlaa
open Go.Lg
set_option maxHeartbeats 3200000
set_option maxRecDepth 10000
set_option linter.unusedVariables false
set_option linter.unusedSimpArgs false

/-! ### In a valid family both ways of following a step are one -/
theorem par_one {ps : List Per} {i : Nat} {x sx born : Int} (h : parentOk (ps.take i) x sx born = true) :
    (x = -1 ∨ (0 ≤ x ∧ x.toNat < ps.length)) ∧ ∀ (b : Nat) (hb : b < ps.length), x = (b : Int) → ps[b].sex = sx := by
  unfold parentOk at h
  simp only [Bool.or_eq_true, eqI_t, Bool.and_eq_true, leI_t] at h
  rcases h with h | ⟨h0, h1⟩
  · exact ⟨.inl h, fun b hb e => by omega⟩
  · split at h1
    · cases h1
    · rename_i q hq
      obtain ⟨hl, e⟩ := List.getElem?_eq_some_iff.1 hq
      simp only [Bool.and_eq_true, eqI_t] at h1
      rw [List.length_take] at hl
      rw [List.getElem_take] at e
      refine ⟨.inr ⟨h0, by omega⟩, fun b hb ex => ?_⟩
      have eb : x.toNat = b := by omega
      subst eb
      rw [e]
      exact h1.1
theorem par_sex {ps : List Per} {us : List Uni} (h : famOk ps us = true) {i : Nat} (hi : i < ps.length) :
    ((ps[i].father = -1 ∨ (0 ≤ ps[i].father ∧ ps[i].father.toNat < ps.length)) ∧ ∀ (b : Nat) (hb : b < ps.length), ps[i].father = (b : Int) → ps[b].sex = 1) ∧
    ((ps[i].mother = -1 ∨ (0 ≤ ps[i].mother ∧ ps[i].mother.toNat < ps.length)) ∧ ∀ (b : Nat) (hb : b < ps.length), ps[i].mother = (b : Int) → ps[b].sex = 2) := by
  obtain ⟨_, _, hp, _, _⟩ := famOk_parts h
  obtain ⟨_, _, _, _, _, _, p1, p2⟩ := personOk_spec (personsTo_get hp hi hi)
  exact ⟨par_one p1, par_one p2⟩
/-- A father is no one's mother. -/
theorem far {ps : List Per} {us : List Uni} (h : famOk ps us = true) {i j : Nat} (hi : i < ps.length) (hj : j < ps.length) (e : ps[i].father ≠ -1) : ps[i].father ≠ ps[j].mother := by
  obtain ⟨⟨f1, f2⟩, _⟩ := par_sex h hi
  obtain ⟨_, _, m2⟩ := par_sex h hj
  intro k
  rcases f1 with f1 | ⟨f0, fl⟩
  · exact e f1
  · have a1 := f2 _ fl (by omega)
    have a2 := m2 _ fl (by omega)
    omega

section
variable {ps : List Per} {us : List Uni} {s : Pr} (h : famOk ps us = true)
include h
end

end Go.Proofs.Ytbiagkccgijdlaa

namespace Go.Proofs.Ytbiagkccgijdlaa
open Go.Lg Go.Pm
set_option maxHeartbeats 3200000
set_option maxRecDepth 10000
set_option linter.unusedVariables false
set_option linter.unusedSimpArgs false

theorem cmpAge_spec (ps : List Per) (us : List Uni) (a b : Nat) (ha : a < ps.length) (hb : b < ps.length) : FSpec env.P 112 [natLV a, natLV b, .ref (famLV ps us)] (.int .i64 (ageI ps a b)) := by
  refine FSpec_of_code env_ok (fn := Try.f112) Try.func112 rfl Try.call112 _ _ ?_
  have h := compareAge_spec ps us (a : Int) (b : Int) (by omega) (by simpa using ha) (by omega) (by simpa using hb)
  ((repeat ((conv => whnf); first | refine brT ?_ | refine brF ?_)); conv => whnf)
  refine ⟨_, h, ?_⟩
  ((repeat ((conv => whnf); first | refine brT ?_ | refine brF ?_)); conv => whnf)
  exact ⟨rfl, rfl, List.nodup_nil⟩
theorem age_T {ps : List Per} (a b : Nat) (ha : a < ps.length) (hb : b < ps.length) : elT ps a b = decide (ageI ps (a : Int) (b : Int) < 0) := by
  rw [← elder_T ha hb, ← age_elder]; unfold ltI; rfl
theorem sortAge_h (ps : List Per) (us : List Uni) (xs : List Nat) (hx : ∀ x ∈ xs, x < ps.length) (hN : xs.length < 1073741824) :
    HSpec env.P 111 [.hs 1 xs.length, .clos 112 [.hp 0 0 []]] [.box (famLV ps us), .arr 3 1 (xs.map natLV)] (.tup []) [.box (famLV ps us), .arr 3 1 ((xs.mergeSort fun a b => !elT ps b a).map natLV)] :=
  sortFunc_h sortL rfl (by rfl) (fun a b ha hb => cmpAge_spec ps us a b ha hb) (fun a b ha hb => age_T a b ha hb) (elT_on ps ps.length) xs hx hN
def rowW (q : Nat → Bool) (k : Nat) : List LV := (wantL q k).map natLV
/-! ### Children and siblings -/
def chQ (ps : List Per) (p : Int) (i : Nat) : Bool := match ps[i]? with | some x => chB x p | none => false
theorem flats_nats : ∀ xs : List Nat, flatsB (xs.map natLV) = true
  | [] => rfl
  | x :: xs => by simp [flatsB, flatB, natLV]; exact flats_nats xs
end Go.Proofs.Ytbiagkccgijdlaa


namespace Go.Proofs.Ytbiagkccgijdlaa
open Go.Lg
set_option maxHeartbeats 6400000
set_option maxRecDepth 10000
set_option linter.unusedVariables false
set_option linter.unusedSimpArgs false

theorem WeakS.idn {n0 : Nat} {ts : List LV} {H : List Blk} (h1 : wk ts ts) (h2 : wkH n0 H H) (h3 : (scs (below H.length) ts && H.all (scB (below H.length))) = true) : Weak n0 ts H ts H := by
  simp only [Bool.and_eq_true] at h3
  exact .inl ⟨h1, h2, h3.1, h3.2⟩
end Go.Proofs.Ytbiagkccgijdlaa

namespace Go.Proofs.Ytbiagkccgijdlaa
open Go.Lg
set_option maxHeartbeats 1600000
set_option maxRecDepth 10000
set_option linter.unusedVariables false
set_option linter.unusedSimpArgs false

/-! ### Rows of texts -/
end Go.Proofs.Ytbiagkccgijdlaa

namespace Go.Proofs.Ytbiagkccgijdlaa
open Go.Lg
set_option maxHeartbeats 3200000
set_option maxRecDepth 10000
set_option linter.unusedVariables false
set_option linter.unusedSimpArgs false

end Go.Proofs.Ytbiagkccgijdlaa

namespace Go.Proofs.Ytbiagkccgijdlaa
open Go.Lg
set_option maxHeartbeats 3200000
set_option maxRecDepth 10000
set_option linter.unusedVariables false
set_option linter.unusedSimpArgs false

end Go.Proofs.Ytbiagkccgijdlaa

namespace Go.Proofs.Ytbiagkccgijdlaa
open Go.Lg
set_option maxHeartbeats 3200000
set_option maxRecDepth 10000
set_option linter.unusedVariables false
set_option linter.unusedSimpArgs false

end Go.Proofs.Ytbiagkccgijdlaa

namespace Go.Proofs.Ytbiagkccgijdlaa
open Go.Lg
set_option maxHeartbeats 3200000
set_option maxRecDepth 10000
set_option linter.unusedVariables false
set_option linter.unusedSimpArgs false

end Go.Proofs.Ytbiagkccgijdlaa

namespace Go.Proofs.Ytbiagkccgijdlaa
open Go.Lg
set_option maxHeartbeats 6400000
set_option maxRecDepth 10000
set_option linter.unusedVariables false
set_option linter.unusedSimpArgs false

end Go.Proofs.Ytbiagkccgijdlaa

namespace Go.Proofs.Ytbiagkccgijdlaa
open Go.Lg Go.Pm
set_option maxHeartbeats 3200000
set_option maxRecDepth 10000
set_option linter.unusedVariables false
set_option linter.unusedSimpArgs false

theorem l1Children_h (ps : List Per) (us : List Uni) (p : Int) (hl : ps.length ≤ 40) :
    HSpec env.P 81 [famLV ps us, .int .i64 p] [] (.hs 0 ((eldL ps (chQ ps p) ps.length).map natLV).length) [.arr 3 1 ((eldL ps (chQ ps p) ps.length).map natLV)] := by
  refine HSpec_of_code (E := env.x [115] 0) env_ok.x (fn := Try.f81) Try.func81 rfl Try.call81 _ _ _ _ ?_
  have hP : (ps.map Per.lv).length = ps.length := List.length_map ..
  have hp' : ps.length ≤ Go.maxLen := by unfold Go.maxLen; omega
  rw [← bySt_eld]
  ((repeat ((conv => whnf); first | refine brT ?_ | refine brF ?_)); conv => whnf)
  intro _
  rw [hP]
  ((repeat ((conv => whnf); first | refine brT ?_ | refine brF ?_)); conv => whnf)
  refine loop_ruleR (α := Nat) [.old 0, .old 1] (fun k => [(12, .int .i64 (k : Int)), (8, .undef), (5, .hs 1 ((bySt ps (chQ ps p) k).map natLV).length)]) (fun k => [.box (famLV ps us), .arr 3 1 ((bySt ps (chQ ps p) k).map natLV)]) (fun k => ps.length - k) (fun k => k ≤ ps.length) 0 (Nat.zero_le _) ?_ ?_
  · refine ⟨?_, ⟨rfl, rfl, rfl, rfl, trivial⟩, rfl⟩
    ((repeat ((conv => whnf); refine ⟨rfl, rfl, ?_⟩)); trivial)
  intro k hk
  generalize hK : kk _ = KK
  have hbl := bySt_len ps (chQ ps p) k
  ((repeat ((conv => whnf); first | refine brT ?_ | refine brF ?_)); conv => whnf)
  (refine ⟨fun g1 => ?_, fun g1 => ?_⟩ <;> rw [g1])
  · have hlt : k < ps.length := by rw [ltI_t] at g1; omega
    have e := step_i hlt hp'
    have hg : (ps.map Per.lv)[k]? = some ps[k].lv := by simp [hlt]
    have hQ : chQ ps p k = (eqI ps[k].father p || eqI ps[k].mother p) := by simp [chQ, hlt, chB]
    ((repeat ((conv => whnf); first | refine brT ?_ | refine brF ?_)); conv => whnf)
    refine ⟨k, _, rfl, hg, rfl, ?_⟩
    ((repeat ((conv => whnf); first | refine brT ?_ | refine brF ?_)); conv => whnf)
    (refine ⟨fun g2 => ?_, fun g2 => ?_⟩ <;> rw [g2])
    · have hq : chQ ps p k = true := by rw [hQ, g2]; rfl
      ((repeat ((conv => whnf); first | refine brT ?_ | refine brF ?_)); conv => whnf)
      refine ⟨[], _, _, _, _, l1ByAge_h ps us (bySt ps (chQ ps p) k) k hlt (fun x hx => Nat.lt_trans (bySt_lt hx) hlt) (by omega), rfl, ?_⟩
      ((repeat ((conv => whnf); first | refine brT ?_ | refine brF ?_)); conv => whnf)
      refine ⟨rfl, ?_⟩
      ((repeat ((conv => whnf); first | refine brT ?_ | refine brF ?_)); conv => whnf)
      refine ⟨rfl, rfl, ⟨rfl, flats_nats _, trivial⟩, ?_⟩
      ((repeat ((conv => whnf); first | refine brT ?_ | refine brF ?_)); conv => whnf)
      subst hK
      have e2 : insA ps k (bySt ps (chQ ps p) k) = bySt ps (chQ ps p) (k + 1) := by simp [bySt, hq]
      have e3 : LV.hs 1 ((insA ps k (bySt ps (chQ ps p) k)).map natLV).length = LV.hs 1 ((bySt ps (chQ ps p) (k + 1)).map natLV).length := by rw [e2]
      refine round_endR [.old 0, .old 3] (k + 1) hlt (by omega) ⟨?_, ⟨rfl, rfl, rfl, congrArg (fun l : List Nat => Blk.arr 3 1 (l.map natLV)) e2, trivial⟩, rfl⟩
      repeat ((conv => whnf); first | refine ⟨rfl, e, ?_⟩ | refine ⟨rfl, e3, ?_⟩ | refine ⟨rfl, rfl, ?_⟩)
      trivial
    · ((repeat ((conv => whnf); first | refine brT ?_ | refine brF ?_)); conv => whnf)
      (refine ⟨fun g3 => ?_, fun g3 => ?_⟩ <;> rw [g3])
      · have hq : chQ ps p k = true := by rw [hQ, g3]; simp
        ((repeat ((conv => whnf); first | refine brT ?_ | refine brF ?_)); conv => whnf)
        refine ⟨[], _, _, _, _, l1ByAge_h ps us (bySt ps (chQ ps p) k) k hlt (fun x hx => Nat.lt_trans (bySt_lt hx) hlt) (by omega), rfl, ?_⟩
        ((repeat ((conv => whnf); first | refine brT ?_ | refine brF ?_)); conv => whnf)
        refine ⟨rfl, ?_⟩
        ((repeat ((conv => whnf); first | refine brT ?_ | refine brF ?_)); conv => whnf)
        refine ⟨rfl, rfl, ⟨rfl, flats_nats _, trivial⟩, ?_⟩
        ((repeat ((conv => whnf); first | refine brT ?_ | refine brF ?_)); conv => whnf)
        subst hK
        have e2 : insA ps k (bySt ps (chQ ps p) k) = bySt ps (chQ ps p) (k + 1) := by simp [bySt, hq]
        have e3 : LV.hs 1 ((insA ps k (bySt ps (chQ ps p) k)).map natLV).length = LV.hs 1 ((bySt ps (chQ ps p) (k + 1)).map natLV).length := by rw [e2]
        refine round_endR [.old 0, .old 3] (k + 1) hlt (by omega) ⟨?_, ⟨rfl, rfl, rfl, congrArg (fun l : List Nat => Blk.arr 3 1 (l.map natLV)) e2, trivial⟩, rfl⟩
        repeat ((conv => whnf); first | refine ⟨rfl, e, ?_⟩ | refine ⟨rfl, e3, ?_⟩ | refine ⟨rfl, rfl, ?_⟩)
        trivial
      · have hq : chQ ps p k = false := by rw [hQ, g2, g3]; rfl
        have e2 : bySt ps (chQ ps p) k = bySt ps (chQ ps p) (k + 1) := by simp [bySt, hq]
        have e3 : LV.hs 1 ((bySt ps (chQ ps p) k).map natLV).length = LV.hs 1 ((bySt ps (chQ ps p) (k + 1)).map natLV).length := by rw [← e2]
        ((repeat ((conv => whnf); first | refine brT ?_ | refine brF ?_)); conv => whnf)
        subst hK
        refine round_endR [.old 0, .old 1] (k + 1) hlt (by omega) ⟨?_, ⟨rfl, rfl, rfl, congrArg (fun l : List Nat => Blk.arr 3 1 (l.map natLV)) e2, trivial⟩, rfl⟩
        repeat ((conv => whnf); first | refine ⟨rfl, e, ?_⟩ | refine ⟨rfl, e3, ?_⟩ | refine ⟨rfl, rfl, ?_⟩)
        trivial
  have h4 : k = ps.length := by rw [ltI_f] at g1; omega
  subst h4
  subst hK
  ((repeat ((conv => whnf); first | refine brT ?_ | refine brF ?_)); conv => whnf)
  exact ⟨[.hs 0 ((bySt ps (chQ ps p) ps.length).map natLV).length], rfl, rfl, .inr ⟨[.old 1], ⟨rfl, rfl, trivial⟩, ⟨rfl, rfl, trivial⟩, rfl⟩⟩
end Go.Proofs.Ytbiagkccgijdlaa

set_option linter.unusedVariables false
set_option linter.unusedSimpArgs false
/-! slices.Repeat of one number, walked at this program. -/
namespace Go.Proofs.SB
open Go.RowKit
set_option maxHeartbeats 2000000
set_option maxRecDepth 100000
/-- So many of the number stand in a row, zeros behind them. -/
def part (c : Int) (n k : Nat) : List Value := List.replicate k (.int .i64 c) ++ List.replicate (n - k) (.int .i64 0)
end Go.Proofs.SB

namespace Go.Proofs.Ytbiagkccgijdlaa
open Go.Lg Go.RowKit
set_option maxHeartbeats 1600000
set_option maxRecDepth 10000
set_option linter.unusedVariables false
set_option linter.unusedSimpArgs false

end Go.Proofs.Ytbiagkccgijdlaa

namespace Go.Proofs.Ytbiagkccgijdlaa
open Go.Lg
set_option maxHeartbeats 800000
set_option linter.unusedVariables false
set_option linter.unusedSimpArgs false

/-! ### Steps up -/
/-- r is a parent of x. -/
def isPa (ps : List Per) (x r : Nat) : Prop := ∃ h : x < ps.length, ps[x].father = (r : Int) ∨ ps[x].mother = (r : Int)
/-- So many steps lead up from one person to another. -/
inductive UpN (ps : List Per) : Nat → Nat → Nat → Prop
  | zero (p : Nat) : UpN ps 0 p p
  | step {n p r q : Nat} : isPa ps p r → UpN ps n r q → UpN ps (n + 1) p q
theorem UpN.snoc {ps : List Per} {n p x q : Nat} (h : UpN ps n p x) (hx : isPa ps x q) : UpN ps (n + 1) p q := by
  induction h with
  | zero p => exact .step hx (.zero q)
  | step h1 h2 ih => exact .step h1 (ih hx)
theorem UpN.last {ps : List Per} {n p q : Nat} (h : UpN ps (n + 1) p q) : ∃ x, UpN ps n p x ∧ isPa ps x q := by
  induction n generalizing p with
  | zero =>
    cases h with
    | step h1 h2 => cases h2 with | zero => exact ⟨p, .zero p, h1⟩
  | succ n ih =>
    cases h with
    | step h1 h2 =>
      obtain ⟨x, hx, hq⟩ := ih h2
      exact ⟨x, .step h1 hx, hq⟩
theorem isPa_lt {ps : List Per} (hp : parsIn ps) {x r : Nat} (h : isPa ps x r) : r < x := by
  obtain ⟨hx, h⟩ := h
  have := hp x hx
  rcases h with h | h
  · rcases this.1 with h1 | h1 <;> omega
  · rcases this.2 with h1 | h1 <;> omega
theorem UpN.le {ps : List Per} (hp : parsIn ps) {n p q : Nat} (h : UpN ps n p q) : q + n ≤ p := by
  induction h with
  | zero p => omega
  | step h1 h2 ih => have := isPa_lt hp h1; omega
theorem UpN.lt {ps : List Per} {n p q : Nat} (h : UpN ps n p q) (hq : q < ps.length) (h0 : n ≠ 0) : p < ps.length := by
  cases h with
  | zero => exact absurd rfl h0
  | step h1 _ => exact h1.1
theorem UpN.add {ps : List Per} {n p x : Nat} (h : UpN ps n p x) {m q : Nat} (k : UpN ps m x q) : UpN ps (n + m) p q := by
  induction h with
  | zero p => rw [Nat.zero_add]; exact k
  | step h1 h2 ih => rw [Nat.add_right_comm]; exact .step h1 (ih k)
/-- The depth of a person. -/
def dpt (ps : List Per) (i : Nat) : Int := (depths ps).getD i 0
theorem depTo_get (ps : List Per) {i k : Nat} (h : i < k) : ∀ n, k ≤ n → (depTo ps n).getD i 0 = (depTo ps k).getD i 0 := by
  intro n hn
  induction n with
  | zero => omega
  | succ n ih =>
    rcases Nat.lt_or_ge n k with h1 | h1
    · have : k = n + 1 := by omega
      subst this; rfl
    · have e := ih h1
      rw [← e]
      simp only [depTo, List.getD_eq_getElem?_getD]
      rw [List.getElem?_append_left (by rw [depTo_len]; omega)]
theorem dpt_rec {ps : List Per} {i : Nat} (h : i < ps.length) : dpt ps i = dep2 (depTo ps i) ps[i] := by
  unfold dpt depths
  rw [depTo_get ps (i := i) (k := i + 1) (by omega) ps.length (by omega), depTo_succ h, List.getD_eq_getElem?_getD, List.getElem?_append_right (by rw [depTo_len]; exact Nat.le_refl _), depTo_len, Nat.sub_self]
  rfl
theorem dpt_par {ps : List Per} (hp : parsIn ps) {x r : Nat} (h : isPa ps x r) : dpt ps r + 1 ≤ dpt ps x := by
  have hr := isPa_lt hp h
  obtain ⟨hx, h⟩ := h
  have e : dep (depTo ps x) (r : Int) = dpt ps r + 1 := by
    unfold dep
    rw [leI_t.2 (by omega : (0 : Int) ≤ (r : Int))]
    show (depTo ps x).getD r 0 + 1 = _
    unfold dpt depths
    rw [depTo_get ps hr ps.length (by omega)]
  rw [dpt_rec hx]
  unfold dep2 maxI
  rcases h with h | h
  · rw [h, e]; split <;> omega
  · rw [h, e]; split <;> omega
theorem dpt_range {ps : List Per} (i : Nat) : 0 ≤ dpt ps i := by
  unfold dpt
  rw [List.getD_eq_getElem?_getD]
  cases e : (depths ps)[i]? with
  | none => exact Int.le_refl _
  | some v => exact (depTo_range ps _ v (List.mem_of_getElem? e)).1
theorem dpt_small {ps : List Per} (h : shallow (depths ps) = true) (i : Nat) : dpt ps i ≤ 10 := by
  unfold dpt
  rw [List.getD_eq_getElem?_getD]
  cases e : (depths ps)[i]? with
  | none => show (0 : Int) ≤ 10; omega
  | some v =>
    unfold shallow at h
    exact leI_t.1 (List.all_eq_true.1 h v (List.mem_of_getElem? e))
theorem UpN.dpt {ps : List Per} (hp : parsIn ps) {n p q : Nat} (h : UpN ps n p q) : dpt ps q + n ≤ dpt ps p := by
  induction h with
  | zero p => simp
  | step h1 h2 ih => have := dpt_par hp h1; push_cast; omega
theorem UpN.small {ps : List Per} (hp : parsIn ps) (hs : shallow (depths ps) = true) {n p q : Nat} (h : UpN ps n p q) : n ≤ 10 := by
  have h1 := h.dpt hp
  have h2 := dpt_small hs p
  have h3 := dpt_range (ps := ps) q
  omega
/-- The least number of steps up; -1 if there are none. -/
def isLeast (ps : List Per) (p q : Nat) (m : Int) : Prop := (∀ n, UpN ps n p q → 0 ≤ m ∧ m ≤ n) ∧ (m = -1 ∨ (0 ≤ m ∧ UpN ps m.toNat p q))
theorem isLeast.zero {ps : List Per} {p q : Nat} {m : Int} (h : isLeast ps p q m) : m = 0 ↔ p = q := by
  constructor
  · intro e
    subst e
    rcases h.2 with h2 | ⟨_, h3⟩
    · omega
    · cases h3; rfl
  · intro e
    subst e
    have := h.1 0 (.zero p); omega
theorem isLeast.range {ps : List Per} {p q : Nat} {m : Int} (h : isLeast ps p q m) : -1 ≤ m := by
  rcases h.2 with h | ⟨h, _⟩ <;> omega

/-! ### As the model reckons them -/
theorem known_pa {ps : List Per} (hp : parsIn ps) {x : Nat} (h : x < ps.length) {v : Int} : v ∈ known ps[x] ↔ ∃ r : Nat, v = r ∧ isPa ps x r := by
  have := hp x h
  unfold known notNone
  simp only [List.mem_filter, List.mem_cons, List.not_mem_nil, or_false, notB_t, eqI_f]
  constructor
  · rintro ⟨h1, h2⟩
    have h0 : 0 ≤ v := by
      rcases h1 with h1 | h1
      · rcases this.1 with k | k <;> omega
      · rcases this.2 with k | k <;> omega
    refine ⟨v.toNat, by omega, h, ?_⟩
    rcases h1 with h1 | h1
    · exact .inl (by omega)
    · exact .inr (by omega)
  · rintro ⟨r, rfl, _, h1⟩
    refine ⟨?_, by omega⟩
    rcases h1 with h1 | h1
    · exact .inl h1.symm
    · exact .inr h1.symm
/-- One parent is laid so many steps up, if that is less. -/
def rlx (o : List Int) (d : Int) (q : Int) : List Int := match ltI (o.getD q.toNat 0) 0 || ltI d (o.getD q.toNat 0) with | true => o.set q.toNat d | false => o
def rlxs (o : List Int) (d : Int) (qs : List Int) : List Int := qs.foldl (fun o q => rlx o d q) o
def relax (ps : List Per) (o : List Int) (x : Nat) : List Int := match ltI (o.getD x 0) 0 with
  | true => o
  | false => match ps[x]? with | some p => rlxs o (o.getD x 0 + 1) (known p) | none => o
def upTo (ps : List Per) (p : Nat) : Nat → List Int
  | 0 => (List.replicate ps.length (-1)).set p 0
  | j + 1 => relax ps (upTo ps p j) (ps.length - 1 - j)
/-- spec.l8Up. -/
def upS (ps : List Per) (p : Nat) : List Int := upTo ps p ps.length
theorem rlx_len (o : List Int) (d q : Int) : (rlx o d q).length = o.length := by unfold rlx; split <;> simp
theorem rlxs_len (d : Int) : ∀ (qs : List Int) (o : List Int), (rlxs o d qs).length = o.length
  | [], o => rfl
  | q :: qs, o => by show (rlxs (rlx o d q) d qs).length = _; rw [rlxs_len d qs, rlx_len]
theorem relax_len (ps : List Per) (o : List Int) (x : Nat) : (relax ps o x).length = o.length := by
  unfold relax; split
  · rfl
  · split
    · exact rlxs_len _ _ _
    · rfl
theorem getD_set {o : List Int} {i j : Nat} {v : Int} (h : i < o.length) : (o.set i v).getD j 0 = if i = j then v else o.getD j 0 := by
  simp only [List.getD_eq_getElem?_getD, List.getElem?_set]
  split
  · rename_i e; subst e; simp [h]
  · rfl
/-- What may be known of the row when all above x have been looked at. -/
structure UpInv (ps : List Per) (p x : Nat) (o : List Int) : Prop where
  len : o.length = ps.length
  own : o.getD p 0 = 0
  real : ∀ q, q < ps.length → o.getD q 0 = -1 ∨ (0 ≤ o.getD q 0 ∧ UpN ps (o.getD q 0).toNat p q)
  done : ∀ y, x ≤ y → y < ps.length → 0 ≤ o.getD y 0 → ∀ r, isPa ps y r → 0 ≤ o.getD r 0 ∧ o.getD r 0 ≤ o.getD y 0 + 1
theorem rlx_get {o : List Int} {d q : Int} (h0 : 0 ≤ q) (hq : q.toNat < o.length) (j : Nat) : (rlx o d q).getD j 0 = if q.toNat = j ∧ (o.getD j 0 < 0 ∨ d < o.getD j 0) then d else o.getD j 0 := by
  unfold rlx
  split
  · rename_i e
    simp only [Bool.or_eq_true, ltI_t] at e
    rw [getD_set hq]
    by_cases hj : q.toNat = j
    · rw [if_pos hj, if_pos ⟨hj, by rw [← hj]; exact e⟩]
    · rw [if_neg hj, if_neg (fun h => hj h.1)]
  · rename_i e
    rw [Bool.or_eq_false_iff, ltI_f, ltI_f] at e
    rw [if_neg]
    rintro ⟨rfl, h⟩
    omega
/-- What laying all parents of x does. -/
theorem rlxs_get {n : Nat} {d : Int} (hd : 0 ≤ d) : ∀ (qs : List Int) (o : List Int), o.length = n → (∀ v ∈ qs, 0 ≤ v ∧ v.toNat < n) →
    ∀ j, ((rlxs o d qs).getD j 0 = o.getD j 0 ∨ ((j : Int) ∈ qs ∧ (rlxs o d qs).getD j 0 = d ∧ (o.getD j 0 < 0 ∨ d < o.getD j 0))) ∧ ((j : Int) ∈ qs → 0 ≤ (rlxs o d qs).getD j 0 ∧ (rlxs o d qs).getD j 0 ≤ d)
  | [], o, _, _, j => ⟨.inl rfl, fun h => by simp at h⟩
  | q :: qs, o, hl, hq, j => by
    obtain ⟨h0, h1⟩ := hq q List.mem_cons_self
    have ih := rlxs_get hd qs (rlx o d q) (by rw [rlx_len, hl]) (fun v hv => hq v (List.mem_cons_of_mem _ hv)) j
    have e := rlx_get (d := d) h0 (by rw [hl]; exact h1) j
    change ((rlxs (rlx o d q) d qs).getD j 0 = o.getD j 0 ∨ ((j : Int) ∈ q :: qs ∧ (rlxs (rlx o d q) d qs).getD j 0 = d ∧ _)) ∧ ((j : Int) ∈ q :: qs → 0 ≤ (rlxs (rlx o d q) d qs).getD j 0 ∧ (rlxs (rlx o d q) d qs).getD j 0 ≤ d)
    obtain ⟨i1, i2⟩ := ih
    generalize (rlxs (rlx o d q) d qs).getD j 0 = R at i1 i2 ⊢
    by_cases hj : q.toNat = j
    · have hm : (j : Int) ∈ q :: qs := by rw [show (j : Int) = q by omega]; exact List.mem_cons_self
      by_cases hc : o.getD j 0 < 0 ∨ d < o.getD j 0
      · rw [if_pos ⟨hj, hc⟩] at e
        rw [e] at i1
        have : R = d := by rcases i1 with i1 | i1 <;> omega
        exact ⟨.inr ⟨hm, this, hc⟩, fun _ => by omega⟩
      · rw [if_neg (fun h => hc h.2)] at e
        rw [e] at i1
        have hR : R = o.getD j 0 := by rcases i1 with i1 | ⟨_, _, i1⟩; exact i1; exact absurd i1 hc
        exact ⟨.inl hR, fun _ => by omega⟩
    · rw [if_neg (fun h => hj h.1)] at e
      rw [e] at i1
      have hne : (j : Int) ≠ q := by omega
      refine ⟨?_, fun h => i2 ?_⟩
      · rcases i1 with i1 | ⟨h, i1⟩
        · exact .inl i1
        · exact .inr ⟨List.mem_cons_of_mem _ h, i1⟩
      · rcases List.mem_cons.1 h with h | h
        · exact absurd h hne
        · exact h
theorem kn_in {ps : List Per} (hp : parsIn ps) {x : Nat} (h : x < ps.length) : ∀ v ∈ known ps[x], 0 ≤ v ∧ v.toNat < x := fun v hv => by
  obtain ⟨r, rfl, hr⟩ := (known_pa hp h).1 hv
  have := isPa_lt hp hr
  omega
theorem UpInv.step {ps : List Per} (hp : parsIn ps) {p x : Nat} {o : List Int} (hx : x < ps.length) (h : UpInv ps p (x + 1) o) : UpInv ps p x (relax ps o x) := by
  have hl : (relax ps o x).length = ps.length := by rw [relax_len, h.len]
  unfold relax at hl ⊢
  split at hl
  · rename_i hneg
    rw [ltI_t] at hneg
    refine ⟨h.len, h.own, h.real, fun y hy hyl hy0 => ?_⟩
    rcases Nat.lt_or_ge x y with h1 | h1
    · exact h.done y h1 hyl hy0
    · have : y = x := by omega
      subst this; omega
  · rename_i hpos
    rw [ltI_f] at hpos
    rw [List.getElem?_eq_getElem hx] at hl ⊢
    have hk := kn_in hp hx
    have g := rlxs_get (n := ps.length) (d := o.getD x 0 + 1) (by omega) (known ps[x]) o h.len (fun v hv => ⟨(hk v hv).1, by have := (hk v hv).2; omega⟩)
    have hsame : ∀ j, x ≤ j → (rlxs o (o.getD x 0 + 1) (known ps[x])).getD j 0 = o.getD j 0 := fun j hj => by
      rcases (g j).1 with e | ⟨e, _⟩
      · exact e
      · have := hk _ e; omega
    have hupx : UpN ps (o.getD x 0).toNat p x := by
      rcases h.real x hx with e | e
      · omega
      · exact e.2
    refine ⟨hl, ?_, ?_, ?_⟩
    · rcases (g p).1 with e | ⟨_, e, e2⟩
      · rw [e]; exact h.own
      · rw [h.own] at e2; omega
    · intro q hq
      rcases (g q).1 with e | ⟨hm, e, _⟩
      · show (rlxs o (o.getD x 0 + 1) (known ps[x])).getD q 0 = -1 ∨ _
        rw [e]; exact h.real q hq
      · right
        show 0 ≤ (rlxs o (o.getD x 0 + 1) (known ps[x])).getD q 0 ∧ _
        rw [e]
        obtain ⟨r, hr, hpa⟩ := (known_pa hp hx).1 hm
        have hqr : q = r := by omega
        subst hqr
        refine ⟨by omega, ?_⟩
        have := hupx.snoc hpa
        rwa [show (o.getD x 0 + 1).toNat = (o.getD x 0).toNat + 1 by omega]
    · intro y hy hyl hy0 r hr
      show 0 ≤ (rlxs o (o.getD x 0 + 1) (known ps[x])).getD r 0 ∧ (rlxs o (o.getD x 0 + 1) (known ps[x])).getD r 0 ≤ (rlxs o (o.getD x 0 + 1) (known ps[x])).getD y 0 + 1
      have hy0' : 0 ≤ o.getD y 0 := by rw [← hsame y hy]; exact hy0
      rw [hsame y hy]
      rcases Nat.lt_or_ge x y with h1 | h1
      · obtain ⟨d1, d2⟩ := h.done y h1 hyl hy0' r hr
        rcases (g r).1 with e | ⟨hm, e, e2⟩
        · rw [e]; exact ⟨d1, d2⟩
        · rw [e]; omega
      · have : y = x := by omega
        subst this
        exact (g r).2 ((known_pa hp hx).2 ⟨r, rfl, hr⟩)
/-- So many steps up; -1 if there are none. -/
def upd (ps : List Per) (p q : Nat) : Int := (upS ps p).getD q 0

/-! ### As the program reckons them -/
end Go.Proofs.Ytbiagkccgijdlaa


namespace Go.Proofs.Ytbiagkccgijdlaa
open Go.Lg
set_option maxHeartbeats 800000
set_option linter.unusedVariables false
set_option linter.unusedSimpArgs false

/-! ### Fractions in their lowest terms -/
def rdc : Nat → Nat → Nat × Nat
  | n, 0 => (n, 0)
  | n, e + 1 => if n % 2 = 0 then rdc (n / 2) e else (n, e + 1)
/-- So many parts in lowest terms. -/
def rd (v : Nat) : Nat × Nat := rdc v 30
end Go.Proofs.Ytbiagkccgijdlaa


namespace Go.Proofs.Ytbiagkccgijdlaa
open Go.Lg
set_option maxHeartbeats 800000
set_option linter.unusedVariables false
set_option linter.unusedSimpArgs false

/-! ### Kinship in parts -/
def wholeN : Nat := 1073741824
/-- The kinship of two persons, out of rows in which each one stands with those before. -/
def kAt (T : List (List Nat)) (x y : Nat) : Nat := (T.getD (max x y) []).getD (min x y) 0
def kSum (T : List (List Nat)) (b : Nat) (qs : List Int) : Nat := (qs.map fun q => kAt T q.toNat b / 2).sum
def kPar (T : List (List Nat)) (p : Per) : Nat := match eqI p.father (-1) || eqI p.mother (-1) with | true => 0 | false => kAt T p.father.toNat p.mother.toNat
def kRow (T : List (List Nat)) (k : Nat) (p : Per) : List Nat := ((List.range k).map fun b => kSum T b (known p)) ++ [wholeN / 2 + kPar T p / 2]
def kTo (ps : List Per) : Nat → List (List Nat)
  | 0 => []
  | k + 1 => kTo ps k ++ [match ps[k]? with | some p => kRow (kTo ps k) k p | none => []]
/-- What is known of the first k rows: kinships are whole numbers of parts as long as nobody is too deep, and at most a whole. -/
structure KInv (ps : List Per) (k : Nat) : Prop where
  dvd : ∀ a b, a < k → b < k → 2 ^ (29 - (dpt ps a).toNat - (dpt ps b).toNat) ∣ kAt (kTo ps k) a b
  le : ∀ a b, a < k → b < k → kAt (kTo ps k) a b ≤ wholeN
end Go.Proofs.Ytbiagkccgijdlaa


namespace Go.Proofs.Ytbiagkccgijdlaa
open Go.Lg
set_option maxHeartbeats 3200000
set_option maxRecDepth 10000
set_option linter.unusedVariables false
set_option linter.unusedSimpArgs false

/-! ### The table of least steps -/
end Go.Proofs.Ytbiagkccgijdlaa

namespace Go.Proofs.Ytbiagkccgijdlaa
open Go.Lg Go.Pm
set_option maxHeartbeats 3200000
set_option maxRecDepth 10000
set_option linter.unusedVariables false
set_option linter.unusedSimpArgs false

end Go.Proofs.Ytbiagkccgijdlaa

namespace Go.Proofs.Ytbiagkccgijdlaa
open Go.Lg Go.Pm
set_option maxHeartbeats 3200000
set_option maxRecDepth 10000
set_option linter.unusedVariables false
set_option linter.unusedSimpArgs false

theorem nats_f {f : FuncId} {args : List LV} {xs : List Nat} (h : HSpec env.P f args [] (.hs 0 (xs.map natLV).length) [.arr 3 1 (xs.map natLV)]) : FSpec env.P f args (.own 3 1 (xs.map natLV)) :=
  FSpec_of_HSpec h (by simp [exW])
end Go.Proofs.Ytbiagkccgijdlaa

namespace Go.Proofs.Ytbiagkccgijdlaa
open Go.Lg Go.Pm
set_option maxHeartbeats 3200000
set_option maxRecDepth 10000
set_option linter.unusedVariables false
set_option linter.unusedSimpArgs false

theorem fam_pi {ps : List Per} {us : List Uni} (h : famOk ps us = true) : parsIn ps := by
  unfold famOk at h; simp only [Bool.and_eq_true] at h; exact parsIn_of h.2.2.1
theorem fam_40 {ps : List Per} {us : List Uni} (h : famOk ps us = true) : ps.length ≤ 40 := by
  unfold famOk at h; simp only [Bool.and_eq_true, decide_eq_true_eq] at h; exact h.1
def belI (x n : Int) : Bool := leI 0 x && ltI x n
theorem isBelow_spec (x n : Int) : FSpec env.P 51 [.int .i64 x, .int .i64 n] (.bool (belI x n)) := by
  refine FSpec_of_code env_ok (fn := Try.f51) Try.func51 rfl Try.call51 _ _ ?_
  unfold belI
  ((repeat ((conv => whnf); first | refine brT ?_ | refine brF ?_)); conv => whnf)
  (refine ⟨fun g => ?_, fun g => ?_⟩ <;> rw [g])
  · ((repeat ((conv => whnf); first | refine brT ?_ | refine brF ?_)); conv => whnf); exact fin rfl
  · ((repeat ((conv => whnf); first | refine brT ?_ | refine brF ?_)); conv => whnf); exact fin rfl
theorem people3_h (ps : List Per) (us : List Uni) (F : Nat) (x y z : LV) (q : Nat → Bool) (hl : ps.length ≤ 40) (hF : ∀ i, i < ps.length → FSpec env.P F [.int .i64 (i : Int), .ref x, .ref y, .ref z] (.bool (q i))) :
    HSpec env.P 110 [famLV ps us, .clos F [.ref x, .ref y, .ref z]] [] (.hs 0 (rowW q ps.length).length) [.arr 3 1 (rowW q ps.length)] := by
  refine HSpec_of_code (E := env.x [] 0) env_ok.x (fn := Try.f110) Try.func110 rfl Try.call110 _ _ _ _ ?_
  have hP : (ps.map Per.lv).length = ps.length := List.length_map ..
  have hp' : ps.length ≤ Go.maxLen := by unfold Go.maxLen; omega
  ((repeat ((conv => whnf); first | refine brT ?_ | refine brF ?_)); conv => whnf)
  intro _
  rw [hP]
  ((repeat ((conv => whnf); first | refine brT ?_ | refine brF ?_)); conv => whnf)
  refine loop_ruleR (α := Nat) [.old 0, .nil 3 1] (fun k => [(10, .int .i64 (k : Int)), (5, .hs 1 (rowW q k).length)]) (fun k => [.box (famLV ps us), .arr 3 1 (rowW q k)]) (fun k => ps.length - k) (fun k => k ≤ ps.length) 0 (Nat.zero_le _) ?_ ?_
  · refine ⟨?_, ⟨rfl, rfl, rfl, rfl, trivial⟩, rfl⟩
    ((repeat ((conv => whnf); refine ⟨rfl, rfl, ?_⟩)); trivial)
  intro k hk
  generalize hK : kk _ = KK
  ((repeat ((conv => whnf); first | refine brT ?_ | refine brF ?_)); conv => whnf)
  (refine ⟨fun g1 => ?_, fun g1 => ?_⟩ <;> rw [g1])
  · have hlt : k < ps.length := by rw [ltI_t] at g1; omega
    have e := step_i hlt hp'
    have hw := wantL_succ q k
    have hwl := wantL_len q (k + 1)
    ((repeat ((conv => whnf); first | refine brT ?_ | refine brF ?_)); conv => whnf)
    refine ⟨_, hF k hlt, ?_⟩
    ((repeat ((conv => whnf); first | refine brT ?_ | refine brF ?_)); conv => whnf)
    (refine ⟨fun g2 => ?_, fun g2 => ?_⟩ <;> rw [g2])
    · rw [g2] at hw
      have e2 : rowW q k ++ [LV.int .i64 (k : Int)] = rowW q (k + 1) := by unfold rowW; rw [hw, List.map_append]; rfl
      have hl1 : (rowW q (k + 1)).length ≤ k + 1 := by unfold rowW; rw [List.length_map]; exact hwl
      ((repeat ((conv => whnf); first | refine brT ?_ | refine brF ?_)); conv => whnf)
      refine ⟨rfl, rfl, ?_, ?_, ?_⟩
      · rw [e2]; unfold Go.maxLen; omega
      · rw [e2]; show (rowW q (k + 1)).length * 8 ≤ _; omega
      rw [e2]
      ((repeat ((conv => whnf); first | refine brT ?_ | refine brF ?_)); conv => whnf)
      subst hK
      refine round_endR [.old 0, .old 3] (k + 1) hlt (by omega) ⟨?_, ⟨rfl, rfl, rfl, rfl, trivial⟩, rfl⟩
      ((repeat ((conv => whnf); first | refine ⟨rfl, e, ?_⟩ | refine ⟨rfl, rfl, ?_⟩)); trivial)
    · rw [g2, List.append_nil] at hw
      have e2 : rowW q k = rowW q (k + 1) := by unfold rowW; rw [hw]
      have e3 : LV.hs 1 (rowW q k).length = LV.hs 1 (rowW q (k + 1)).length := by rw [e2]
      ((repeat ((conv => whnf); first | refine brT ?_ | refine brF ?_)); conv => whnf)
      subst hK
      refine round_endR [.old 0, .old 1] (k + 1) hlt (by omega) ⟨?_, ⟨rfl, rfl, rfl, congrArg (Blk.arr 3 1) e2, trivial⟩, rfl⟩
      repeat ((conv => whnf); first | refine ⟨rfl, e, ?_⟩ | refine ⟨rfl, e3, ?_⟩ | refine ⟨rfl, rfl, ?_⟩)
      trivial
  have h4 : k = ps.length := by rw [ltI_f] at g1; omega
  subst h4
  subst hK
  ((repeat ((conv => whnf); first | refine brT ?_ | refine brF ?_)); conv => whnf)
  exact ⟨[.hs 0 (rowW q ps.length).length], rfl, rfl, .inr ⟨[.old 1], ⟨rfl, rfl, trivial⟩, ⟨rfl, rfl, trivial⟩, rfl⟩⟩
end Go.Proofs.Ytbiagkccgijdlaa

namespace Go.Proofs.Ytbiagkccgijdlaa
open Go.Lg Go.Pm
set_option maxHeartbeats 6400000
set_option maxRecDepth 10000
set_option linter.unusedVariables false
set_option linter.unusedSimpArgs false

/-! ### Other names -/
end Go.Proofs.Ytbiagkccgijdlaa

namespace Go.Proofs.Ytbiagkccgijdlaa
open Go.Lg Go.Pm
set_option maxHeartbeats 6400000
set_option maxRecDepth 10000
set_option linter.unusedVariables false
set_option linter.unusedSimpArgs false

end Go.Proofs.Ytbiagkccgijdlaa

namespace Go.Proofs.Ytbiagkccgijdlaa
open Go.Lg Go.Pm
set_option maxHeartbeats 6400000
set_option maxRecDepth 10000
set_option linter.unusedVariables false
set_option linter.unusedSimpArgs false

end Go.Proofs.Ytbiagkccgijdlaa

namespace Go.Proofs.Ytbiagkccgijdlaa
open Go.Lg Go.Pm
set_option maxHeartbeats 6400000
set_option maxRecDepth 10000
set_option linter.unusedVariables false
set_option linter.unusedSimpArgs false

end Go.Proofs.Ytbiagkccgijdlaa

namespace Go.Proofs.Ytbiagkccgijdlaa
open Go.Lg Go.Pm
set_option maxHeartbeats 6400000
set_option maxRecDepth 10000
set_option linter.unusedVariables false
set_option linter.unusedSimpArgs false

end Go.Proofs.Ytbiagkccgijdlaa

namespace Go.Proofs.Ytbiagkccgijdlaa
open Go.Lg Go.Pm
set_option maxHeartbeats 6400000
set_option maxRecDepth 10000
set_option linter.unusedVariables false
set_option linter.unusedSimpArgs false

end Go.Proofs.Ytbiagkccgijdlaa

namespace Go.Proofs.Ytbiagkccgijdlaa
open Go.Lg Go.Pm
set_option maxHeartbeats 6400000
set_option maxRecDepth 10000
set_option linter.unusedVariables false
set_option linter.unusedSimpArgs false

end Go.Proofs.Ytbiagkccgijdlaa

namespace Go.Proofs.Ytbiagkccgijdlaa
open Go.Lg Go.Pm
set_option maxHeartbeats 6400000
set_option maxRecDepth 10000
set_option linter.unusedVariables false
set_option linter.unusedSimpArgs false

/-! ### Products -/
def smallI (m : Nat) (a : List Int) : Prop := ∀ x ∈ a, 0 ≤ x ∧ x < m
theorem smallI.at {m : Nat} {a : List Int} (h : smallI m a) {i : Nat} (hi : i < a.length) : 0 ≤ a.getD i 0 ∧ a.getD i 0 < m := by rw [getD_lt hi]; exact h _ (List.getElem_mem hi)
end Go.Proofs.Ytbiagkccgijdlaa

namespace Go.Proofs.Ytbiagkccgijdlaa
open Go.Lg Go.Pm
set_option maxHeartbeats 6400000
set_option maxRecDepth 10000
set_option linter.unusedVariables false
set_option linter.unusedSimpArgs false

end Go.Proofs.Ytbiagkccgijdlaa

namespace Go.Proofs.Ytbiagkccgijdlaa
open Go.Lg Go.Pm
set_option maxHeartbeats 6400000
set_option maxRecDepth 10000
set_option linter.unusedVariables false
set_option linter.unusedSimpArgs false

end Go.Proofs.Ytbiagkccgijdlaa

namespace Go.Proofs.Ytbiagkccgijdlaa
open Go.Lg Go.Pm
set_option maxHeartbeats 6400000
set_option maxRecDepth 10000
set_option linter.unusedVariables false
set_option linter.unusedSimpArgs false

end Go.Proofs.Ytbiagkccgijdlaa

namespace Go.Proofs.Ytbiagkccgijdlaa
open Go.Lg Go.Pm
set_option maxHeartbeats 6400000
set_option maxRecDepth 10000
set_option linter.unusedVariables false
set_option linter.unusedSimpArgs false

/-! ### The order of systems -/
end Go.Proofs.Ytbiagkccgijdlaa


namespace Go.Proofs.Ytbiagkccgijdlaa
open Go.Lg Go.Pm
set_option maxHeartbeats 3200000
set_option maxRecDepth 10000
set_option linter.unusedVariables false
set_option linter.unusedSimpArgs false

def oL (p : Option (List Int)) : List Int := p.getD []
def fl (xss : List (Option (List Int))) : List Int := (xss.map oL).flatten
end Go.Proofs.Ytbiagkccgijdlaa

namespace Go.Proofs.Ytbiagkccgijdlaa
open Go.Lg Go.Pm
set_option maxHeartbeats 6400000
set_option maxRecDepth 10000
set_option linter.unusedVariables false
set_option linter.unusedSimpArgs false

/-! ### All permutations, one place after the other -/
def ixI (x : Int) (k : Nat) : List Int → Int
  | [] => -1
  | y :: l => match eqI x y with | true => (k : Int) | false => ixI x (k + 1) l
def hasI (l : List Int) (x : Int) : Bool := l.any fun y => eqI x y
theorem ixI_has (x : Int) : ∀ (l : List Int) (k : Nat), leI 0 (ixI x k l) = hasI l x
  | [], k => by simp [ixI, hasI, leI_d]
  | y :: l, k => by
    have := ixI_has x l (k + 1)
    simp only [ixI, hasI, List.any_cons]
    cases eqI x y with
    | true => simp [leI_d]
    | false => simp only [Bool.false_or]; exact this
theorem indexI_spec (l : List Int) (x : Int) : FSpec env.P 125 [.sl (l.map intLV), .int .i64 x] (.int .i64 (ixI x 0 l)) := by
  refine FSpec_of_code env_ok (fn := Try.f125) Try.func125 rfl Try.call125 _ _ ?_
  have hX : (l.map intLV).length = l.length := List.length_map ..
  ((repeat ((conv => whnf); first | refine brT ?_ | refine brF ?_)); conv => whnf)
  intro hp
  rw [hX] at hp ⊢
  ((repeat ((conv => whnf); first | refine brT ?_ | refine brF ?_)); conv => whnf)
  refine loop_rule (α := Nat) (fun k => [(8, .int .i64 (k : Int))]) (fun _ => []) (fun k => l.length - k) (fun k => k ≤ l.length ∧ ixI x 0 l = ixI x k (l.drop k)) 0 ⟨Nat.zero_le _, rfl⟩ ?_ ?_
  · refine ⟨?_, trivial, rfl, rfl⟩
    ((repeat ((conv => whnf); refine ⟨rfl, ?_⟩)); trivial)
  rintro k ⟨hk, he⟩
  ((repeat ((conv => whnf); first | refine brT ?_ | refine brF ?_)); conv => whnf)
  (refine ⟨fun h1 => ?_, fun h1 => ?_⟩ <;> rw [h1])
  · have hlt : k < l.length := by rw [ltI_t] at h1; omega
    have hd : ixI x 0 l = (match eqI x l[k] with | true => (k : Int) | false => ixI x (k + 1) (l.drop (k + 1))) := by
      rw [he, List.drop_eq_getElem_cons hlt]; simp only [ixI]
    ((repeat ((conv => whnf); first | refine brT ?_ | refine brF ?_)); conv => whnf)
    refine ⟨k, intLV l[k], rfl, by simp [hlt], rfl, ?_⟩
    ((repeat ((conv => whnf); first | refine brT ?_ | refine brF ?_)); conv => whnf)
    (refine ⟨fun h3 => ?_, fun h3 => ?_⟩ <;> rw [h3])
    · rw [h3] at hd
      ((repeat ((conv => whnf); first | refine brT ?_ | refine brF ?_)); conv => whnf)
      exact ⟨rfl, hd.symm, List.nodup_nil⟩
    · rw [h3] at hd
      ((repeat ((conv => whnf); first | refine brT ?_ | refine brF ?_)); conv => whnf)
      refine round_end (k + 1) ⟨hlt, hd⟩ (by omega) ⟨?_, trivial, rfl, rfl⟩
      have e := step_i hlt hp
      ((repeat ((conv => whnf); first | refine ⟨e, ?_⟩ | refine ⟨rfl, ?_⟩)); trivial)
  · have h4 : k = l.length := by rw [ltI_f] at h1; omega
    subst h4
    ((repeat ((conv => whnf); first | refine brT ?_ | refine brF ?_)); conv => whnf)
    refine ⟨rfl, ?_, List.nodup_nil⟩
    rw [he, List.drop_eq_nil_of_le (Nat.le_refl _)]
    simp only [ixI]
end Go.Proofs.Ytbiagkccgijdlaa
