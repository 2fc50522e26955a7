/- Contracts of functions of the program and of its model, told over readings. -/
import Derived.Test.YtpfipmjmblgjfaaFWGE
import Derived.Test.YtpfipmjmblgjfaaFWGD
import Derived.Test.YtpfipmjmblgjfaaFWGC
import Derived.Test.YtpfipmjmblgjfaaFLgRN
import Derived.Test.YtpfipmjmblgjfaaFLgRM
namespace Go.Proofs.Ytpfipmjmblgjfaa
open Go.Lg
set_option maxHeartbeats 6400000
set_option maxRecDepth 10000
set_option linter.unusedVariables false
set_option linter.unusedSimpArgs false

def costR (r : Rul) : Nat := 3 + 2 * r.fr.length + 2 * r.to.length
def totR (rs : List Rul) : Nat := (rs.map costR).sum
theorem totR_snoc (rs : List Rul) (r : Rul) : totR (rs ++ [r]) = totR rs + costR r := by simp [totR]
theorem totR_take_succ {rs : List Rul} {i : Nat} (h : i < rs.length) : totR (rs.take (i + 1)) = totR (rs.take i) + costR rs[i] := by
  rw [List.take_succ_eq_append_getElem h, totR_snoc]
theorem totR_take_le (rs : List Rul) (i : Nat) : totR (rs.take i) ≤ totR rs := by
  have e : totR rs = totR (rs.take i) + totR (rs.drop i) := by unfold totR; rw [← List.sum_append, ← List.map_append, List.take_append_drop]
  omega
/-- A rule marked from a number on. -/
def markRul (k : Nat) (r : Rul) : Rul := ⟨mText k, ((k + 1 : Nat) : Int), ((k + 2 : Nat) : Int), markPrs (k + 3) r.fr.length, markPrs (k + 3 + 2 * r.fr.length) r.to.length⟩
def markRuls (k : Nat) (rs : List Rul) (i : Nat) : List Rul := (List.range i).map fun j => match rs[j]? with | some r => markRul (k + totR (rs.take j)) r | none => ⟨⟨#[]⟩, 0, 0, [], []⟩
def markRT (k : Nat) (rs : List Rul) (i : Nat) : List Rul := markRuls k rs i ++ rs.drop i
theorem markRuls_len (k : Nat) (rs : List Rul) (i : Nat) : (markRuls k rs i).length = i := by simp [markRuls]
theorem markRT_len {k : Nat} {rs : List Rul} {i : Nat} (h : i ≤ rs.length) : (markRT k rs i).length = rs.length := by simp [markRT, markRuls_len]; omega
theorem markRT_zero (k : Nat) (rs : List Rul) : markRT k rs 0 = rs := by simp [markRT, markRuls]
theorem markRT_get {k : Nat} {rs : List Rul} {i : Nat} (h : i < rs.length) : (markRT k rs i)[i]? = some rs[i] := by
  unfold markRT
  rw [List.getElem?_append_right (by rw [markRuls_len]; exact Nat.le_refl _), markRuls_len]
  simp [h]
theorem markRT_set {k : Nat} {rs : List Rul} {i : Nat} (h : i < rs.length) : (markRT k rs i).set i (markRul (k + totR (rs.take i)) rs[i]) = markRT k rs (i + 1) := by
  have e : markRuls k rs (i + 1) = markRuls k rs i ++ [markRul (k + totR (rs.take i)) rs[i]] := by simp [markRuls, List.range_succ, h]
  unfold markRT
  rw [e, List.drop_eq_getElem_cons h, List.set_append_right _ _ (by rw [markRuls_len]; exact Nat.le_refl _), markRuls_len, Nat.sub_self, List.set_cons_zero, List.append_assoc]
  rfl

theorem set_facts {M : List LV} {i : Nat} {x : LV} (h : i < M.length) : (M.set i x).length = M.length ∧ (M.set i x)[i]? = some x ∧ ∀ y, (M.set i x).set i y = M.set i y := by
  refine ⟨by simp, by simp [h], fun y => by simp⟩
theorem getP_at {xs : List LV} {i : Nat} {x : LV} (h : xs[i]? = some x) : getP (.st xs) [i] = some x := by simp only [getP, h]
theorem markRuleS_spec (rs : List Rul) (n : Nat) (hn : n = (rs.map rulO).length) (k : Nat) (h1 : k + totR rs ≤ 2305843009213693952) :
    HSpec env.P 67 [.hs 0 n, .int .i64 (k : Int)] [.tree 80 5 (rs.map rulO)] (.int .i64 ((k + totR rs : Nat) : Int)) [.tree 80 5 ((markRT k rs rs.length).map rulO)] := by
  subst hn
  refine HSpec_of_code (E := env.x [119] 1) env_ok.x (fn := Try.f67) Try.func67 rfl Try.call67 _ _ _ _ ?_
  ((repeat ((conv => whnf); first | refine brT ?_ | refine brF ?_)); conv => whnf)
  refine loop_rule (α := Nat) (fun i => [(5, .int .i64 (i : Int)), (1, .int .i64 ((k + totR (rs.take i) : Nat) : Int)), (0, .hs 0 ((markRT k rs i).map rulO).length)]) (fun i => [.tree 80 5 ((markRT k rs i).map rulO)]) (fun i => rs.length - i) (fun i => i ≤ rs.length) 0 (Nat.zero_le _) ?_ ?_
  · have e1 : LV.hs 0 (rs.map rulO).length = LV.hs 0 ((markRT k rs 0).map rulO).length := by rw [markRT_zero]
    have e2 : LV.int .i64 (k : Int) = LV.int .i64 ((k + totR (rs.take 0) : Nat) : Int) := by simp [totR]
    refine ⟨?_, ⟨congrArg (Blk.tree 80 5) (by rw [markRT_zero]), trivial⟩, rfl, rfl⟩
    repeat ((conv => whnf); first | refine ⟨e1, ?_⟩ | refine ⟨e2, ?_⟩ | refine ⟨rfl, ?_⟩)
    trivial
  intro i hi
  have hl : ((markRT k rs i).map rulO).length = rs.length := by rw [List.length_map, markRT_len hi]
  ((repeat ((conv => whnf); first | refine brT ?_ | refine brF ?_)); conv => whnf)
  refine ⟨rfl, fun hm => ?_⟩
  have hm' : rs.length ≤ Go.maxLen := by rw [← hl]; exact hm
  ((repeat ((conv => whnf); first | refine brT ?_ | refine brF ?_)); conv => whnf)
  (refine ⟨fun g1 => ?_, fun g1 => ?_⟩ <;> rw [g1])
  · have hlt : i < rs.length := by rw [ltI_t] at g1; omega
    have ht := totR_take_succ hlt
    have hle := totR_take_le rs (i + 1)
    have e := step_i hlt hm'
    have e5 : LV.hs 0 ((markRT k rs i).map rulO).length = LV.hs 0 ((markRT k rs (i + 1)).map rulO).length := by rw [hl, List.length_map, markRT_len (by omega)]
    have hg : ((markRT k rs i).map rulO)[i]? = some (rulO rs[i]) := by rw [List.getElem?_map, markRT_get hlt]; rfl
    have hfin : ((markRT k rs i).map rulO).set i (rulO (markRul (k + totR (rs.take i)) rs[i])) = (markRT k rs (i + 1)).map rulO := by rw [← markRT_set hlt, List.map_set]
    unfold costR at ht
    generalize (markRT k rs i).map rulO = M at hl hg hfin e5
    have hcell : LV.int .i64 ((k + totR (rs.take i) : Nat) : Int) = LV.int .i64 ((k + totR (rs.take i) : Nat) : Int) := rfl
    generalize hK : k + totR (rs.take i) = K at hfin
    ((repeat ((conv => whnf); first | refine brT ?_ | refine brF ?_)); conv => whnf)
    refine ⟨_, markText_spec K (by omega), ?_⟩
    ((repeat ((conv => whnf); first | refine brT ?_ | refine brF ?_)); conv => whnf)
    have hiM : i < M.length := by omega
    refine ⟨rfl, rfl, i, rfl, hiM, ?_⟩
    ((repeat ((conv => whnf); first | refine brT ?_ | refine brF ?_)); conv => whnf)
    refine ⟨rfl, by simp, _, by simp only [getP, hg]; rfl, rfl, by simp, ?_⟩
    ((repeat ((conv => whnf); first | refine brT ?_ | refine brF ?_)); conv => whnf)
    refine ⟨rfl, rfl, rulO rs[i], .str rs[i].name, M.set i (rulO ⟨mText K, rs[i].sex, rs[i].place, rs[i].fr, rs[i].to⟩), hg, rfl, rfl, rfl, ?_⟩
    obtain ⟨l1, g1', s1⟩ := set_facts (x := rulO ⟨mText K, rs[i].sex, rs[i].place, rs[i].fr, rs[i].to⟩) hiM
    generalize M.set i (rulO ⟨mText K, rs[i].sex, rs[i].place, rs[i].fr, rs[i].to⟩) = M1 at l1 g1' s1 ⊢
    have hiM1 : i < M1.length := by omega
    ((repeat ((conv => whnf); first | refine brT ?_ | refine brF ?_)); conv => whnf)
    rw [show IntKind.i64.wrap ((K : Int) + 1) = ((K + 1 : Nat) : Int) by rw [wrap64 (by omega) (by omega)]; rfl]
    refine ⟨l1.symm, rfl, i, rfl, by omega, ?_⟩
    ((repeat ((conv => whnf); first | refine brT ?_ | refine brF ?_)); conv => whnf)
    refine ⟨l1.symm, by simp, _, by simp only [getP, g1']; rfl, rfl, by simp, ?_⟩
    ((repeat ((conv => whnf); first | refine brT ?_ | refine brF ?_)); conv => whnf)
    refine ⟨l1.symm, rfl, _, .int .i64 rs[i].sex, M1.set i (rulO ⟨mText K, ((K + 1 : Nat) : Int), rs[i].place, rs[i].fr, rs[i].to⟩), g1', rfl, rfl, rfl, ?_⟩
    obtain ⟨l2, g2', s2⟩ := set_facts (x := rulO ⟨mText K, ((K + 1 : Nat) : Int), rs[i].place, rs[i].fr, rs[i].to⟩) hiM1
    generalize M1.set i (rulO ⟨mText K, ((K + 1 : Nat) : Int), rs[i].place, rs[i].fr, rs[i].to⟩) = M2 at l2 g2' s2 ⊢
    have hiM2 : i < M2.length := by omega
    ((repeat ((conv => whnf); first | refine brT ?_ | refine brF ?_)); conv => whnf)
    rw [show IntKind.i64.wrap (((K + 1 : Nat) : Int) + 1) = ((K + 2 : Nat) : Int) by rw [wrap64 (by omega) (by omega)]; rfl]
    refine ⟨by omega, rfl, i, rfl, by omega, ?_⟩
    ((repeat ((conv => whnf); first | refine brT ?_ | refine brF ?_)); conv => whnf)
    refine ⟨by omega, by simp, _, by simp only [getP, g2']; rfl, rfl, by simp, ?_⟩
    ((repeat ((conv => whnf); first | refine brT ?_ | refine brF ?_)); conv => whnf)
    refine ⟨by omega, rfl, _, .int .i64 rs[i].place, M2.set i (rulO ⟨mText K, ((K + 1 : Nat) : Int), ((K + 2 : Nat) : Int), rs[i].fr, rs[i].to⟩), g2', rfl, rfl, rfl, ?_⟩
    obtain ⟨l3, g3', s3⟩ := set_facts (x := rulO ⟨mText K, ((K + 1 : Nat) : Int), ((K + 2 : Nat) : Int), rs[i].fr, rs[i].to⟩) hiM2
    generalize M2.set i (rulO ⟨mText K, ((K + 1 : Nat) : Int), ((K + 2 : Nat) : Int), rs[i].fr, rs[i].to⟩) = M3 at l3 g3' s3 ⊢
    have hiM3 : i < M3.length := by omega
    ((repeat ((conv => whnf); first | refine brT ?_ | refine brF ?_)); conv => whnf)
    rw [show IntKind.i64.wrap (((K + 2 : Nat) : Int) + 1) = ((K + 3 : Nat) : Int) by rw [wrap64 (by omega) (by omega)]; rfl]
    refine ⟨by omega, rfl, i, rfl, by omega, ?_⟩
    ((repeat ((conv => whnf); first | refine brT ?_ | refine brF ?_)); conv => whnf)
    refine ⟨by omega, by simp, _, by simp only [getP, g3']; rfl, rfl, by simp, ?_⟩
    ((repeat ((conv => whnf); first | refine brT ?_ | refine brF ?_)); conv => whnf)
    refine ⟨by omega, _, _, g3', rfl, ?_⟩
    ((repeat ((conv => whnf); first | refine brT ?_ | refine brF ?_)); conv => whnf)
    refine ⟨[1], _, _, _, _, markStepS_spec rs[i].fr _ rfl (K + 3) (by omega), rfl, rfl, rfl, trivial, ?_⟩
    ((repeat ((conv => whnf); first | refine brT ?_ | refine brF ?_)); conv => whnf)
    refine ⟨by simp; omega, rfl, i, rfl, by simp; omega, ?_⟩
    ((repeat ((conv => whnf); first | refine brT ?_ | refine brF ?_)); conv => whnf)
    refine ⟨by simp [markPrs_len], ?_⟩
    ((repeat ((conv => whnf); first | refine brT ?_ | refine brF ?_)); conv => whnf)
    obtain ⟨l4, g4', s4⟩ := set_facts (x := rulO ⟨mText K, ((K + 1 : Nat) : Int), ((K + 2 : Nat) : Int), markPrs (K + 3) rs[i].fr.length, rs[i].to⟩) hiM3
    have hM4 : M.length = (M3.set i (rulO ⟨mText K, ((K + 1 : Nat) : Int), ((K + 2 : Nat) : Int), markPrs (K + 3) rs[i].fr.length, rs[i].to⟩)).length := by omega
    refine ⟨hM4, by simp, _, getP_at g4', rfl, by simp, ?_⟩
    ((repeat ((conv => whnf); first | refine brT ?_ | refine brF ?_)); conv => whnf)
    refine ⟨hM4, _, _, g4', rfl, ?_⟩
    ((repeat ((conv => whnf); first | refine brT ?_ | refine brF ?_)); conv => whnf)
    refine ⟨[2], _, _, _, _, markStepS_spec rs[i].to _ rfl (K + 3 + 2 * rs[i].fr.length) (by omega), rfl, rfl, rfl, trivial, ?_⟩
    ((repeat ((conv => whnf); first | refine brT ?_ | refine brF ?_)); conv => whnf)
    have e4 : LV.int .i64 ((K + 3 + 2 * rs[i].fr.length + 2 * rs[i].to.length : Nat) : Int) = LV.int .i64 ((k + totR (rs.take (i + 1)) : Nat) : Int) := by congr 2; omega
    have e6 : (M3.set i (rulO ⟨mText K, ((K + 1 : Nat) : Int), ((K + 2 : Nat) : Int), markPrs (K + 3) rs[i].fr.length, rs[i].to⟩)).set i (rulO (markRul K rs[i])) = (markRT k rs (i + 1)).map rulO := by rw [s4, s3, s2, s1]; exact hfin
    refine round_endR [.old 0] (i + 1) hlt (by omega) ⟨?_, ⟨by simp [markPrs_len], rfl, congrArg (Blk.tree 80 5) e6, trivial⟩, rfl⟩
    repeat ((conv => whnf); first | refine ⟨rfl, e, ?_⟩ | refine ⟨rfl, e4, ?_⟩ | refine ⟨rfl, e5, ?_⟩ | refine ⟨rfl, rfl, ?_⟩)
    trivial
  · have h3 : i = rs.length := by rw [ltI_f] at g1; omega
    subst h3
    ((repeat ((conv => whnf); first | refine brT ?_ | refine brF ?_)); conv => whnf)
    exact ⟨[.int .i64 ((k + totR (rs.take rs.length) : Nat) : Int)], by simp [tupOf], rfl, .inl ⟨⟨rfl, trivial⟩, ⟨rfl, trivial⟩, rfl, rfl⟩⟩
end Go.Proofs.Ytpfipmjmblgjfaa

namespace Go.Proofs.Ytpfipmjmblgjfaa
open Go.Lg
set_option maxHeartbeats 3200000
set_option maxRecDepth 10000
set_option linter.unusedVariables false
set_option linter.unusedSimpArgs false

/-- A type of kin. -/
structure Ty where
  e : Int
  ss : List Pr
def Ty.lv (t : Ty) : LV := typLV t.e t.ss
def Ty.own (t : Ty) : LV := .st [.int .i64 t.e, .own 112 2 (t.ss.map Pr.lv)]
def Ty.eq (t u : Ty) : Bool := eqTyp t.e t.ss u.e u.ss
theorem Ty.eq_refl (t : Ty) : t.eq t = true := eqTyp_refl _ _
theorem dms_ty (ts : List Ty) : dms (ts.map Ty.own) = ts.map Ty.lv := by
  rw [dms_map, List.map_map]
  refine List.map_congr_left fun t _ => ?_
  simp [Ty.own, Ty.lv, typLV, dm, dms]
theorem reducts1_spec (t u : Ty) : FSpec env.P 182 [t.lv, .ref u.lv] (.bool (t.eq u)) := by
  refine FSpec_of_code env_ok (fn := Try.f182) Try.func182 rfl Try.call182 _ _ ?_
  ((repeat ((conv => whnf); first | refine brT ?_ | refine brF ?_)); conv => whnf)
  refine ⟨_, equalTypes_impl t.e t.ss u.e u.ss, ?_⟩
  ((repeat ((conv => whnf); first | refine brT ?_ | refine brF ?_)); conv => whnf)
  exact fin rfl
theorem indexTy_spec (u : Ty) (qs : List Ty) : FSpec env.P 210 [.sl (qs.map Ty.lv), .clos 182 [.ref u.lv]] (.int .i64 (idxF (fun t => t.eq u) 0 qs)) := by
  refine FSpec_of_code env_ok (fn := Try.f210) Try.func210 rfl Try.call210 _ _ ?_
  ((repeat ((conv => whnf); first | refine brT ?_ | refine brF ?_)); conv => whnf)
  intro hp
  have hp' : qs.length ≤ Go.maxLen := by simpa using hp
  ((repeat ((conv => whnf); first | refine brT ?_ | refine brF ?_)); conv => whnf)
  refine loop_rule (α := Nat) (fun k => [(8, .int .i64 (k : Int))]) (fun k => []) (fun k => qs.length - k) (fun k => k ≤ qs.length ∧ idxF (fun t => t.eq u) k (qs.drop k) = idxF (fun t => t.eq u) 0 qs) 0 ⟨Nat.zero_le _, rfl⟩ ?_ ?_
  · refine ⟨?_, trivial, rfl, rfl⟩
    ((repeat ((conv => whnf); refine ⟨rfl, ?_⟩)); trivial)
  rintro k ⟨hk, hf⟩
  ((repeat ((conv => whnf); first | refine brT ?_ | refine brF ?_)); conv => whnf)
  (refine ⟨fun h1 => ?_, fun h1 => ?_⟩ <;> rw [h1])
  · have hlt : k < qs.length := by rw [ltI_t] at h1; simp at h1; omega
    rw [List.drop_eq_getElem_cons hlt] at hf
    simp only [idxF] at hf
    ((repeat ((conv => whnf); first | refine brT ?_ | refine brF ?_)); conv => whnf)
    refine ⟨k, qs[k].lv, rfl, by simp [hlt], rfl, ?_⟩
    ((repeat ((conv => whnf); first | refine brT ?_ | refine brF ?_)); conv => whnf)
    refine ⟨_, reducts1_spec qs[k] u, ?_⟩
    ((repeat ((conv => whnf); first | refine brT ?_ | refine brF ?_)); conv => whnf)
    (refine ⟨fun h2 => ?_, fun h2 => ?_⟩ <;> rw [h2])
    · rw [h2] at hf
      ((repeat ((conv => whnf); first | refine brT ?_ | refine brF ?_)); conv => whnf)
      exact finI hf
    · rw [h2] at hf
      ((repeat ((conv => whnf); first | refine brT ?_ | refine brF ?_)); conv => whnf)
      refine round_end (k + 1) ⟨hlt, hf⟩ (by omega) ⟨?_, trivial, rfl, rfl⟩
      have e := step_i hlt hp'
      ((repeat ((conv => whnf); first | refine ⟨e, ?_⟩ | refine ⟨rfl, ?_⟩)); trivial)
  · have h3 : qs.length ≤ k := by rw [ltI_f] at h1; simp at h1; omega
    rw [List.drop_eq_nil_of_le h3] at hf
    ((repeat ((conv => whnf); first | refine brT ?_ | refine brF ?_)); conv => whnf)
    exact finI hf
theorem containsTy_spec (u : Ty) (qs : List Ty) : FSpec env.P 181 [.sl (qs.map Ty.lv), .clos 182 [.ref u.lv]] (.bool (qs.any fun t => t.eq u)) := by
  refine FSpec_of_code env_ok (fn := Try.f181) Try.func181 rfl Try.call181 _ _ ?_
  ((repeat ((conv => whnf); first | refine brT ?_ | refine brF ?_)); conv => whnf)
  refine ⟨_, indexTy_spec u qs, ?_⟩
  ((repeat ((conv => whnf); first | refine brT ?_ | refine brF ?_)); conv => whnf)
  exact fin (idxF_ge _ _ _)
theorem l4In_spec (u : Ty) (qs : List Ty) : FSpec env.P 176 [.sl (qs.map Ty.lv), u.lv] (.bool (qs.any fun t => u.eq t)) := by
  refine FSpec_of_code env_ok (fn := Try.f176) Try.func176 rfl Try.call176 _ _ ?_
  ((repeat ((conv => whnf); first | refine brT ?_ | refine brF ?_)); conv => whnf)
  intro hp
  have hp' : qs.length ≤ Go.maxLen := by simpa using hp
  ((repeat ((conv => whnf); first | refine brT ?_ | refine brF ?_)); conv => whnf)
  refine loop_rule (α := Nat) (fun k => [(9, .int .i64 (k : Int))]) (fun k => [.box u.lv]) (fun k => qs.length - k) (fun k => k ≤ qs.length ∧ (qs.drop k).any (fun t => u.eq t) = qs.any fun t => u.eq t) 0 ⟨Nat.zero_le _, rfl⟩ ?_ ?_
  · refine ⟨?_, ⟨rfl, trivial⟩, rfl, rfl⟩
    ((repeat ((conv => whnf); refine ⟨rfl, ?_⟩)); trivial)
  rintro k ⟨hk, hf⟩
  ((repeat ((conv => whnf); first | refine brT ?_ | refine brF ?_)); conv => whnf)
  (refine ⟨fun h1 => ?_, fun h1 => ?_⟩ <;> rw [h1])
  · have hlt : k < qs.length := by rw [ltI_t] at h1; simp at h1; omega
    rw [List.drop_eq_getElem_cons hlt, List.any_cons] at hf
    ((repeat ((conv => whnf); first | refine brT ?_ | refine brF ?_)); conv => whnf)
    refine ⟨k, qs[k].lv, rfl, by simp [hlt], rfl, ?_⟩
    ((repeat ((conv => whnf); first | refine brT ?_ | refine brF ?_)); conv => whnf)
    refine ⟨_, equalTypes_spec u.e u.ss qs[k].e qs[k].ss, ?_⟩
    ((repeat ((conv => whnf); first | refine brT ?_ | refine brF ?_)); conv => whnf)
    (refine ⟨fun h2 => ?_, fun h2 => ?_⟩ <;> rw [h2])
    · rw [show u.eq qs[k] = true from h2, Bool.true_or] at hf
      ((repeat ((conv => whnf); first | refine brT ?_ | refine brF ?_)); conv => whnf)
      exact fin hf
    · rw [show u.eq qs[k] = false from h2, Bool.false_or] at hf
      ((repeat ((conv => whnf); first | refine brT ?_ | refine brF ?_)); conv => whnf)
      refine round_end (k + 1) ⟨hlt, hf⟩ (by omega) ⟨?_, ⟨rfl, trivial⟩, rfl, rfl⟩
      have e := step_i hlt hp'
      ((repeat ((conv => whnf); first | refine ⟨e, ?_⟩ | refine ⟨rfl, ?_⟩)); trivial)
  · have h3 : qs.length ≤ k := by rw [ltI_f] at h1; simp at h1; omega
    rw [List.drop_eq_nil_of_le h3] at hf
    ((repeat ((conv => whnf); first | refine brT ?_ | refine brF ?_)); conv => whnf)
    exact fin hf
theorem eqTyS_spec (rs ss : List Ty) : FSpec env.P 65 [.sl (rs.map Ty.lv), .sl (ss.map Ty.lv)] (.bool (eqList Ty.eq rs ss)) := by
  refine FSpec_of_code env_ok (fn := Try.f65) Try.func65 rfl Try.call65 _ _ ?_
  ((repeat ((conv => whnf); first | refine brT ?_ | refine brF ?_)); conv => whnf)
  intro hp
  ((repeat ((conv => whnf); first | refine brT ?_ | refine brF ?_)); conv => whnf)
  intro hq
  ((repeat ((conv => whnf); first | refine brT ?_ | refine brF ?_)); conv => whnf)
  (refine ⟨fun h => ?_, fun h => ?_⟩ <;> rw [h])
  · ((repeat ((conv => whnf); first | refine brT ?_ | refine brF ?_)); conv => whnf)
    refine fin ?_
    rw [notB_t] at h
    rw [eqList_len (eqI_nolen h)]
  rw [notB_f] at h
  have hl := eqI_len h
  have hp' : rs.length ≤ Go.maxLen := by simpa using hp
  ((repeat ((conv => whnf); first | refine brT ?_ | refine brF ?_)); conv => whnf)
  refine loop_rule (α := Nat) (fun k => [(5, .int .i64 (k : Int))]) (fun _ => []) (fun k => rs.length - k) (fun k => k ≤ rs.length ∧ eqTo Ty.eq rs ss k) 0 ⟨Nat.zero_le _, fun _ _ _ h => absurd h (Nat.not_lt_zero _)⟩ ?_ ?_
  · refine ⟨?_, trivial, rfl, rfl⟩
    ((repeat ((conv => whnf); refine ⟨rfl, ?_⟩)); trivial)
  rintro k ⟨hk, he⟩
  ((repeat ((conv => whnf); first | refine brT ?_ | refine brF ?_)); conv => whnf)
  intro _
  ((repeat ((conv => whnf); first | refine brT ?_ | refine brF ?_)); conv => whnf)
  (refine ⟨fun h1 => ?_, fun h1 => ?_⟩ <;> rw [h1])
  · have hlt : k < rs.length := by rw [ltI_t] at h1; simp at h1; omega
    have hlt2 : k < ss.length := by omega
    ((repeat ((conv => whnf); first | refine brT ?_ | refine brF ?_)); conv => whnf)
    refine ⟨true, by kernel_rfl, ?_⟩
    ((repeat ((conv => whnf); first | refine brT ?_ | refine brF ?_)); conv => whnf)
    refine ⟨k, rs[k].lv, rfl, by simp [hlt], rfl, ?_⟩
    ((repeat ((conv => whnf); first | refine brT ?_ | refine brF ?_)); conv => whnf)
    refine ⟨k, ss[k].lv, rfl, by simp [hlt2], rfl, ?_⟩
    ((repeat ((conv => whnf); first | refine brT ?_ | refine brF ?_)); conv => whnf)
    refine ⟨_, eqKinType_spec rs[k].e rs[k].ss ss[k].e ss[k].ss, ?_⟩
    ((repeat ((conv => whnf); first | refine brT ?_ | refine brF ?_)); conv => whnf)
    (refine ⟨fun h3 => ?_, fun h3 => ?_⟩ <;> rw [h3])
    · rw [notB_t] at h3
      ((repeat ((conv => whnf); first | refine brT ?_ | refine brF ?_)); conv => whnf)
      refine fin ?_
      rw [eqList_no (k := k) (x := rs[k]) (y := ss[k]) (by simp [hlt]) (by simp [hlt2]) h3]
    · rw [notB_f] at h3
      ((repeat ((conv => whnf); first | refine brT ?_ | refine brF ?_)); conv => whnf)
      refine round_end (k + 1) ⟨hlt, he.succ (x := rs[k]) (y := ss[k]) (by simp [hlt]) (by simp [hlt2]) h3⟩ (by omega) ⟨?_, trivial, rfl, rfl⟩
      have e := step_i hlt hp'
      ((repeat ((conv => whnf); first | refine ⟨e, ?_⟩ | refine ⟨rfl, ?_⟩)); trivial)
  · have h3 : rs.length ≤ k := by rw [ltI_f] at h1; simp at h1; omega
    have h4 : k = rs.length := by omega
    subst h4
    ((repeat ((conv => whnf); first | refine brT ?_ | refine brF ?_)); conv => whnf)
    refine fin ?_
    rw [eqTo.all hl he]
theorem eqTyS_refl (rs : List Ty) : eqList Ty.eq rs rs = true := eqList_refl Ty.eq_refl rs
end Go.Proofs.Ytpfipmjmblgjfaa

namespace Go.Proofs.Ytpfipmjmblgjfaa
open Go.Lg
set_option maxHeartbeats 6400000
set_option maxRecDepth 10000
set_option linter.unusedVariables false
set_option linter.unusedSimpArgs false

def costT (t : Ty) : Nat := 1 + 2 * t.ss.length
def totT (ts : List Ty) : Nat := (ts.map costT).sum
theorem totT_snoc (ts : List Ty) (t : Ty) : totT (ts ++ [t]) = totT ts + costT t := by simp [totT]
theorem totT_take_succ {ts : List Ty} {i : Nat} (h : i < ts.length) : totT (ts.take (i + 1)) = totT (ts.take i) + costT ts[i] := by
  rw [List.take_succ_eq_append_getElem h, totT_snoc]
theorem totT_take_le (ts : List Ty) (i : Nat) : totT (ts.take i) ≤ totT ts := by
  have e : totT ts = totT (ts.take i) + totT (ts.drop i) := by unfold totT; rw [← List.sum_append, ← List.map_append, List.take_append_drop]
  omega
/-- A type marked from a number on. -/
def markTy (k : Nat) (t : Ty) : Ty := ⟨(k : Int), markPrs (k + 1) t.ss.length⟩
def markTys (k : Nat) (ts : List Ty) (i : Nat) : List Ty := (List.range i).map fun j => match ts[j]? with | some t => markTy (k + totT (ts.take j)) t | none => ⟨0, []⟩
def markTT (k : Nat) (ts : List Ty) (i : Nat) : List Ty := markTys k ts i ++ ts.drop i
theorem markTys_len (k : Nat) (ts : List Ty) (i : Nat) : (markTys k ts i).length = i := by simp [markTys]
theorem markTT_len {k : Nat} {ts : List Ty} {i : Nat} (h : i ≤ ts.length) : (markTT k ts i).length = ts.length := by simp [markTT, markTys_len]; omega
theorem markTT_zero (k : Nat) (ts : List Ty) : markTT k ts 0 = ts := by simp [markTT, markTys]
theorem markTT_all (k : Nat) (ts : List Ty) : markTT k ts ts.length = markTys k ts ts.length := by simp [markTT]
theorem markTT_get {k : Nat} {ts : List Ty} {i : Nat} (h : i < ts.length) : (markTT k ts i)[i]? = some ts[i] := by
  unfold markTT
  rw [List.getElem?_append_right (by rw [markTys_len]; exact Nat.le_refl _), markTys_len]
  simp [h]
theorem markTT_set {k : Nat} {ts : List Ty} {i : Nat} (h : i < ts.length) : (markTT k ts i).set i (markTy (k + totT (ts.take i)) ts[i]) = markTT k ts (i + 1) := by
  have e : markTys k ts (i + 1) = markTys k ts i ++ [markTy (k + totT (ts.take i)) ts[i]] := by simp [markTys, List.range_succ, h]
  unfold markTT
  rw [e, List.drop_eq_getElem_cons h, List.set_append_right _ _ (by rw [markTys_len]; exact Nat.le_refl _), markTys_len, Nat.sub_self, List.set_cons_zero, List.append_assoc]
  rfl

theorem markTyS_spec (ts : List Ty) (n : Nat) (hn : n = (ts.map Ty.own).length) (k : Nat) (h1 : k + totT ts ≤ 2305843009213693952) :
    HSpec env.P 68 [.hs 0 n, .int .i64 (k : Int)] [.tree 52 2 (ts.map Ty.own)] (.int .i64 ((k + totT ts : Nat) : Int)) [.tree 52 2 ((markTys k ts ts.length).map Ty.own)] := by
  subst hn
  refine HSpec_of_code (E := env.x [119] 1) env_ok.x (fn := Try.f68) Try.func68 rfl Try.call68 _ _ _ _ ?_
  ((repeat ((conv => whnf); first | refine brT ?_ | refine brF ?_)); conv => whnf)
  refine loop_rule (α := Nat) (fun i => [(5, .int .i64 (i : Int)), (1, .int .i64 ((k + totT (ts.take i) : Nat) : Int)), (0, .hs 0 ((markTT k ts i).map Ty.own).length)]) (fun i => [.tree 52 2 ((markTT k ts i).map Ty.own)]) (fun i => ts.length - i) (fun i => i ≤ ts.length) 0 (Nat.zero_le _) ?_ ?_
  · have e1 : LV.hs 0 (ts.map Ty.own).length = LV.hs 0 ((markTT k ts 0).map Ty.own).length := by rw [markTT_zero]
    have e2 : LV.int .i64 (k : Int) = LV.int .i64 ((k + totT (ts.take 0) : Nat) : Int) := by simp [totT]
    refine ⟨?_, ⟨congrArg (Blk.tree 52 2) (by rw [markTT_zero]), trivial⟩, rfl, rfl⟩
    repeat ((conv => whnf); first | refine ⟨e1, ?_⟩ | refine ⟨e2, ?_⟩ | refine ⟨rfl, ?_⟩)
    trivial
  intro i hi
  have hl : ((markTT k ts i).map Ty.own).length = ts.length := by rw [List.length_map, markTT_len hi]
  ((repeat ((conv => whnf); first | refine brT ?_ | refine brF ?_)); conv => whnf)
  refine ⟨rfl, fun hm => ?_⟩
  have hm' : ts.length ≤ Go.maxLen := by rw [← hl]; exact hm
  ((repeat ((conv => whnf); first | refine brT ?_ | refine brF ?_)); conv => whnf)
  (refine ⟨fun g1 => ?_, fun g1 => ?_⟩ <;> rw [g1])
  · have hlt : i < ts.length := by rw [ltI_t] at g1; omega
    have ht := totT_take_succ hlt
    have hle := totT_take_le ts (i + 1)
    have e := step_i hlt hm'
    have e5 : LV.hs 0 ((markTT k ts i).map Ty.own).length = LV.hs 0 ((markTT k ts (i + 1)).map Ty.own).length := by rw [hl, List.length_map, markTT_len (by omega)]
    have hg : ((markTT k ts i).map Ty.own)[i]? = some ts[i].own := by rw [List.getElem?_map, markTT_get hlt]; rfl
    have hfin : ((markTT k ts i).map Ty.own).set i (markTy (k + totT (ts.take i)) ts[i]).own = (markTT k ts (i + 1)).map Ty.own := by rw [← markTT_set hlt, List.map_set]
    unfold costT at ht
    generalize (markTT k ts i).map Ty.own = M at hl hg hfin e5
    generalize hK : k + totT (ts.take i) = K at hfin
    have hiM : i < M.length := by omega
    ((repeat ((conv => whnf); first | refine brT ?_ | refine brF ?_)); conv => whnf)
    refine ⟨rfl, rfl, i, rfl, hiM, ?_⟩
    ((repeat ((conv => whnf); first | refine brT ?_ | refine brF ?_)); conv => whnf)
    refine ⟨rfl, by simp, _, by simp only [getP, hg]; rfl, rfl, by simp, ?_⟩
    ((repeat ((conv => whnf); first | refine brT ?_ | refine brF ?_)); conv => whnf)
    refine ⟨rfl, rfl, ts[i].own, .int .i64 ts[i].e, M.set i (Ty.own ⟨(K : Int), ts[i].ss⟩), hg, rfl, rfl, rfl, ?_⟩
    obtain ⟨l1, g1', s1⟩ := set_facts (x := Ty.own ⟨(K : Int), ts[i].ss⟩) hiM
    generalize M.set i (Ty.own ⟨(K : Int), ts[i].ss⟩) = M1 at l1 g1' s1 ⊢
    have hiM1 : i < M1.length := by omega
    ((repeat ((conv => whnf); first | refine brT ?_ | refine brF ?_)); conv => whnf)
    rw [show IntKind.i64.wrap ((K : Int) + 1) = ((K + 1 : Nat) : Int) by rw [wrap64 (by omega) (by omega)]; rfl]
    refine ⟨l1.symm, rfl, i, rfl, by omega, ?_⟩
    ((repeat ((conv => whnf); first | refine brT ?_ | refine brF ?_)); conv => whnf)
    refine ⟨l1.symm, by simp, _, by simp only [getP, g1']; rfl, rfl, by simp, ?_⟩
    ((repeat ((conv => whnf); first | refine brT ?_ | refine brF ?_)); conv => whnf)
    refine ⟨l1.symm, _, _, g1', rfl, ?_⟩
    ((repeat ((conv => whnf); first | refine brT ?_ | refine brF ?_)); conv => whnf)
    refine ⟨[1], _, _, _, _, markStepS_spec ts[i].ss _ rfl (K + 1) (by omega), rfl, rfl, rfl, trivial, ?_⟩
    ((repeat ((conv => whnf); first | refine brT ?_ | refine brF ?_)); conv => whnf)
    have e4 : LV.int .i64 ((K + 1 + 2 * ts[i].ss.length : Nat) : Int) = LV.int .i64 ((k + totT (ts.take (i + 1)) : Nat) : Int) := by congr 2; omega
    have e6 : M1.set i (markTy K ts[i]).own = (markTT k ts (i + 1)).map Ty.own := by rw [s1]; exact hfin
    refine round_endR [.old 0] (i + 1) hlt (by omega) ⟨?_, ⟨by simp [markPrs_len], rfl, congrArg (Blk.tree 52 2) e6, trivial⟩, rfl⟩
    repeat ((conv => whnf); first | refine ⟨rfl, e, ?_⟩ | refine ⟨rfl, e4, ?_⟩ | refine ⟨rfl, e5, ?_⟩ | refine ⟨rfl, rfl, ?_⟩)
    trivial
  · have h3 : i = ts.length := by rw [ltI_f] at g1; omega
    subst h3
    ((repeat ((conv => whnf); first | refine brT ?_ | refine brF ?_)); conv => whnf)
    exact ⟨[.int .i64 ((k + totT (ts.take ts.length) : Nat) : Int)], by simp [tupOf], rfl, .inl ⟨⟨rfl, trivial⟩, ⟨congrArg (Blk.tree 52 2) (by rw [markTT_all]), trivial⟩, rfl, rfl⟩⟩
end Go.Proofs.Ytpfipmjmblgjfaa

namespace Go.Proofs.Ytpfipmjmblgjfaa
open Go.Lg
set_option maxHeartbeats 3200000
set_option maxRecDepth 10000
set_option linter.unusedVariables false
set_option linter.unusedSimpArgs false

theorem markTys_get {k : Nat} {ts : List Ty} {i : Nat} (h : i < ts.length) : (markTys k ts ts.length)[i]? = some (markTy (k + totT (ts.take i)) ts[i]) := by
  simp [markTys, h]
theorem heldTyS_spec (ts : List Ty) (k : Nat) (h1 : k + totT ts ≤ 2305843009213693952) :
    FSpec env.P 69 [.sl ((markTys k ts ts.length).map Ty.lv), .int .i64 (k : Int)] (.int .i64 ((k + totT ts : Nat) : Int)) := by
  refine FSpec_of_code env_ok (fn := Try.f69) Try.func69 rfl Try.call69 _ _ ?_
  have hl : ((markTys k ts ts.length).map Ty.lv).length = ts.length := by simp [markTys_len]
  ((repeat ((conv => whnf); first | refine brT ?_ | refine brF ?_)); conv => whnf)
  refine loop_rule (α := Nat) (fun i => [(5, .int .i64 (i : Int)), (1, .int .i64 ((k + totT (ts.take i) : Nat) : Int))]) (fun i => []) (fun i => ts.length - i) (fun i => i ≤ ts.length) 0 (Nat.zero_le _) ?_ ?_
  · have e2 : LV.int .i64 (k : Int) = LV.int .i64 ((k + totT (ts.take 0) : Nat) : Int) := by simp [totT]
    refine ⟨?_, trivial, rfl, rfl⟩
    ((repeat ((conv => whnf); first | refine ⟨e2, ?_⟩ | refine ⟨rfl, ?_⟩)); trivial)
  intro i hi
  ((repeat ((conv => whnf); first | refine brT ?_ | refine brF ?_)); conv => whnf)
  intro hm
  rw [hl] at hm
  ((repeat ((conv => whnf); first | refine brT ?_ | refine brF ?_)); conv => whnf)
  (refine ⟨fun g1 => ?_, fun g1 => ?_⟩ <;> rw [g1])
  · have hlt : i < ts.length := by rw [ltI_t, hl] at g1; omega
    have ht := totT_take_succ hlt
    have hle := totT_take_le ts (i + 1)
    have e := step_i hlt hm
    have hg : ((markTys k ts ts.length).map Ty.lv)[i]? = some (typLV ((k + totT (ts.take i) : Nat) : Int) (markPrs (k + totT (ts.take i) + 1) ts[i].ss.length)) := by rw [List.getElem?_map, markTys_get hlt]; rfl
    unfold costT at ht
    generalize (markTys k ts ts.length).map Ty.lv = M at hg hl
    have hn : ∃ n, ts[i].ss.length = n := ⟨_, rfl⟩
    generalize hK : k + totT (ts.take i) = K at hg
    ((repeat ((conv => whnf); first | refine brT ?_ | refine brF ?_)); conv => whnf)
    refine ⟨i, _, rfl, hg, rfl, ?_⟩
    ((repeat ((conv => whnf); first | refine brT ?_ | refine brF ?_)); conv => whnf)
    rw [eqI_refl, show notB true = false by simp [notB]]
    ((repeat ((conv => whnf); first | refine brT ?_ | refine brF ?_)); conv => whnf)
    rw [show IntKind.i64.wrap ((K : Int) + 1) = ((K + 1 : Nat) : Int) by rw [wrap64 (by omega) (by omega)]; rfl]
    refine ⟨i, _, rfl, hg, rfl, ?_⟩
    ((repeat ((conv => whnf); first | refine brT ?_ | refine brF ?_)); conv => whnf)
    refine ⟨_, heldStepS_spec (K + 1) ts[i].ss.length (by omega), ?_⟩
    ((repeat ((conv => whnf); first | refine brT ?_ | refine brF ?_)); conv => whnf)
    rw [show ltI ((K + 1 + 2 * ts[i].ss.length : Nat) : Int) 0 = false by rw [ltI_f]; omega]
    ((repeat ((conv => whnf); first | refine brT ?_ | refine brF ?_)); conv => whnf)
    have e4 : LV.int .i64 ((K + 1 + 2 * ts[i].ss.length : Nat) : Int) = LV.int .i64 ((k + totT (ts.take (i + 1)) : Nat) : Int) := by congr 2; omega
    refine round_end (i + 1) hlt (by omega) ⟨?_, trivial, rfl, rfl⟩
    repeat ((conv => whnf); first | refine ⟨e, ?_⟩ | refine ⟨e4, ?_⟩ | refine ⟨rfl, ?_⟩)
    trivial
  · have h3 : i = ts.length := by rw [ltI_f, hl] at g1; omega
    subst h3
    ((repeat ((conv => whnf); first | refine brT ?_ | refine brF ?_)); conv => whnf)
    exact ⟨rfl, by simp, List.nodup_nil⟩
end Go.Proofs.Ytpfipmjmblgjfaa

namespace Go.Proofs.Ytpfipmjmblgjfaa
open Go.Lg
set_option maxHeartbeats 1600000
set_option maxRecDepth 10000
set_option linter.unusedVariables false
set_option linter.unusedSimpArgs false

/-! A number of a type that falls with each replacement. -/
def dg (p : Pr) : Nat := (3 * p.a + p.b).toNat
def okP (p : Pr) : Prop := 1 ≤ p.a ∧ p.a ≤ 8 ∧ 0 ≤ p.b ∧ p.b ≤ 2
def wv : List Pr → Nat
  | [] => 0
  | p :: ps => dg p * 32 ^ ps.length + wv ps
def muT (ss : List Pr) : Nat := 32 ^ ss.length + wv ss
theorem pw_pos (n : Nat) : 0 < 32 ^ n := Nat.pow_pos (by decide)
theorem dg_le {p : Pr} (h : okP p) : dg p ≤ 26 := by unfold okP at h; unfold dg; omega
theorem wv_lt : ∀ {ss : List Pr}, (∀ p ∈ ss, okP p) → wv ss < 32 ^ ss.length
  | [], _ => by simp [wv]
  | p :: ps, h => by
    have h1 := wv_lt (ss := ps) fun x hx => h x (by simp [hx])
    have h2 := dg_le (h p (by simp))
    simp only [wv, List.length_cons, Nat.pow_succ]
    have h3 : dg p * 32 ^ ps.length ≤ 26 * 32 ^ ps.length := Nat.mul_le_mul_right _ h2
    omega
theorem wv_app : ∀ (a b : List Pr), wv (a ++ b) = wv a * 32 ^ b.length + wv b
  | [], b => by simp [wv]
  | p :: a, b => by
    simp only [List.cons_append, wv, wv_app a b, List.length_append, Nat.pow_add, Nat.add_mul, Nat.mul_assoc, Nat.add_assoc]
theorem wv_bef : ∀ {to fr m : List Pr}, to.length = fr.length → fr.length = m.length → befL to fr = true → likeL fr m = true → (∀ p ∈ to, okP p) → (∀ p ∈ m, okP p) → wv to < wv m
  | [], fr, m, h1, h2, hb, _, _, _ => by
    cases fr with
    | nil => simp [befL] at hb
    | cons _ _ => simp at h1
  | p :: ps, [], m, h1, _, _, _, _, _ => by simp at h1
  | p :: ps, q :: qs, [], _, h2, _, _, _, _ => by simp at h2
  | p :: ps, q :: qs, s :: ms, h1, h2, hb, hl, ho, hm => by
    have l1 : ps.length = qs.length := by simpa using h1
    have l2 : qs.length = ms.length := by simpa using h2
    simp only [likeL, Bool.and_eq_true] at hl
    obtain ⟨hl1, hl2⟩ := hl
    have hop := ho p (by simp)
    have hos := hm s (by simp)
    have hps : ∀ x ∈ ps, okP x := fun x hx => ho x (by simp [hx])
    have hms : ∀ x ∈ ms, okP x := fun x hx => hm x (by simp [hx])
    have hlt := wv_lt hps
    simp only [wv]
    rw [show ms.length = ps.length by omega]
    simp only [likeB, Bool.and_eq_true, Bool.or_eq_true, eqI_t] at hl1
    obtain ⟨ha, hbb⟩ := hl1
    simp only [befL] at hb
    have lt_case : dg p < dg s → dg p * 32 ^ ps.length + wv ps < dg s * 32 ^ ps.length + wv ms := fun hd => by
      have : (dg p + 1) * 32 ^ ps.length ≤ dg s * 32 ^ ps.length := Nat.mul_le_mul_right _ hd
      rw [Nat.add_mul, Nat.one_mul] at this
      omega
    unfold okP at hop hos
    cases e1 : eqI p.a q.a <;> rw [e1] at hb <;> simp only at hb
    · rw [ltI_t] at hb
      exact lt_case (by unfold dg; omega)
    · rw [eqI_t] at e1
      cases e2 : eqI p.b q.b <;> rw [e2] at hb <;> simp only at hb
      · rw [ltI_t] at hb
        exact lt_case (by unfold dg; omega)
      · rw [eqI_t] at e2
        have ih := wv_bef l1 l2 hb hl2 hps hms
        have hd : dg p ≤ dg s := by unfold dg; omega
        have : dg p * 32 ^ ps.length ≤ dg s * 32 ^ ps.length := Nat.mul_le_mul_right _ hd
        omega
theorem mu_lt {pre to fr m post : List Pr} (hlen : fr.length = m.length) (hb : befP to fr = true) (hl : likeL fr m = true) (h1 : ∀ p ∈ pre, okP p) (h2 : ∀ p ∈ to, okP p) (h3 : ∀ p ∈ m, okP p) (h4 : ∀ p ∈ post, okP p) :
    muT (pre ++ (to ++ post)) < muT (pre ++ (m ++ post)) := by
  unfold befP at hb
  cases e : eqI (to.length : Int) fr.length <;> rw [e] at hb <;> simp only at hb
  · rw [ltI_t] at hb
    have hall : ∀ p ∈ pre ++ (to ++ post), okP p := by
      intro p hp
      simp only [List.mem_append] at hp
      rcases hp with hp | hp | hp
      · exact h1 p hp
      · exact h2 p hp
      · exact h4 p hp
    have hw := wv_lt hall
    unfold muT
    have hL : (pre ++ (to ++ post)).length + 1 ≤ (pre ++ (m ++ post)).length := by simp; omega
    have hp := Nat.pow_le_pow_right (n := 32) (by decide) hL
    rw [Nat.pow_succ] at hp
    omega
  · rw [eqI_t] at e
    have hw := wv_bef (by omega) hlen hb hl h2 h3
    unfold muT
    rw [show (pre ++ (to ++ post)).length = (pre ++ (m ++ post)).length by simp; omega, wv_app pre, wv_app to, wv_app pre, wv_app m]
    rw [show (to ++ post).length = (m ++ post).length by simp; omega]
    have : (wv to + 1) * 32 ^ post.length ≤ wv m * 32 ^ post.length := Nat.mul_le_mul_right _ hw
    rw [Nat.add_mul, Nat.one_mul] at this
    have := pw_pos post.length
    omega
theorem likeL_take : ∀ {fr ss : List Pr}, likeL fr ss = true → likeL fr (ss.take fr.length) = true
  | [], _, _ => rfl
  | p :: ps, [], h => by simp [likeL] at h
  | p :: ps, s :: ss, h => by
    simp only [likeL, Bool.and_eq_true] at h
    simp only [List.length_cons, List.take_succ_cons, likeL, Bool.and_eq_true]
    exact ⟨h.1, likeL_take h.2⟩
theorem step_okP {k g x : Int} (h : stepB k g x = true) : 1 ≤ k ∧ k ≤ 8 ∧ 0 ≤ g ∧ g ≤ 2 := by
  unfold stepB at h
  simp only [Bool.or_eq_true, Bool.and_eq_true, eqI_t] at h
  omega
theorem typB_okP {e : Int} {ss : List Pr} (h : typB e ss = true) : ∀ p ∈ ss, okP p := by
  intro p hp
  obtain ⟨i, hi, rfl⟩ := List.getElem_of_mem hp
  unfold typB stepsTo at h
  simp only [Bool.and_eq_true, List.all_eq_true, List.mem_range] at h
  have := h.2.2 i hi
  rw [List.getElem?_eq_getElem hi] at this
  exact step_okP this
theorem ruleB_okP {r : Rul} (h : ruleB r = true) : befP r.to r.fr = true ∧ ∀ p ∈ r.to, okP p := by
  unfold ruleB keepB at h
  simp only [Bool.and_eq_true] at h
  obtain ⟨_, _, _, hb, hk1, hk2⟩ := h
  refine ⟨hb, ?_⟩
  rw [List.any_eq_true] at hk2
  obtain ⟨s, hs, ht⟩ := hk2
  rw [List.all_eq_true] at hk1
  have h3 := hk1 s hs
  unfold okS at h3
  rw [ht] at h3
  simp only [Bool.not_true, Bool.false_or, Bool.and_eq_true] at h3
  exact typB_okP h3.1
theorem red_lt {r : Rul} {g : Int} {ss : List Pr} {i : Nat} (hr : ruleB r = true) (hf : fitsB r g ss (i : Int) = true) (ho : ∀ p ∈ ss, okP p) :
    muT (replS r ss i) < muT ss ∧ ∀ p ∈ replS r ss i, okP p := by
  obtain ⟨hb, hto⟩ := ruleB_okP hr
  unfold fitsB at hf
  simp only [Bool.and_eq_true, leI_t] at hf
  obtain ⟨⟨_, h2⟩, _, hl, _⟩ := hf
  rw [Int.toNat_natCast] at hl
  have hle : i + r.fr.length ≤ ss.length := by omega
  have e : ss = ss.take i ++ ((ss.drop i).take r.fr.length ++ ss.drop (i + r.fr.length)) := by
    rw [← List.drop_drop, List.take_append_drop, List.take_append_drop]
  have k1 : ∀ p ∈ ss.take i, okP p := fun p hp => ho p (List.mem_of_mem_take hp)
  have k3 : ∀ p ∈ (ss.drop i).take r.fr.length, okP p := fun p hp => ho p (List.mem_of_mem_drop (List.mem_of_mem_take hp))
  have k4 : ∀ p ∈ ss.drop (i + r.fr.length), okP p := fun p hp => ho p (List.mem_of_mem_drop hp)
  refine ⟨?_, ?_⟩
  · have := mu_lt (pre := ss.take i) (post := ss.drop (i + r.fr.length)) (m := (ss.drop i).take r.fr.length) (by simp; omega) hb (likeL_take hl) k1 hto k3 k4
    rw [← e] at this
    exact this
  · intro p hp
    unfold replS at hp
    simp only [List.mem_append] at hp
    rcases hp with hp | hp | hp
    · exact k1 p hp
    · exact hto p hp
    · exact k4 p hp
end Go.Proofs.Ytpfipmjmblgjfaa

namespace Go.Proofs.Ytpfipmjmblgjfaa
open Go.Lg
set_option maxHeartbeats 1600000
set_option maxRecDepth 10000
set_option linter.unusedVariables false
set_option linter.unusedSimpArgs false

/-- The fittings of rules in a type: by steps, then by rules. -/
def fitAt (rs : List Rul) (e : Int) (ss : List Pr) (i k : Nat) : Bool := match rs[k]? with | some r => fitsB r e ss (i : Int) | none => false
def fitRow (rs : List Rul) (e : Int) (ss : List Pr) (i m : Nat) : List (Nat × Nat) := ((List.range m).filter (fitAt rs e ss i)).map (Prod.mk i)
def fitTo (rs : List Rul) (e : Int) (ss : List Pr) (n : Nat) : List (Nat × Nat) := (List.range n).flatMap fun i => fitRow rs e ss i rs.length
def fitL (rs : List Rul) (e : Int) (ss : List Pr) : List (Nat × Nat) := fitTo rs e ss ss.length
def fitE (p : Nat × Nat) : List LV := [.int .i64 (p.1 : Int), .int .i64 (p.2 : Int)]
theorem fitRow_t {rs : List Rul} {e : Int} {ss : List Pr} {i m : Nat} (h : fitAt rs e ss i m = true) : fitRow rs e ss i (m + 1) = fitRow rs e ss i m ++ [(i, m)] := by
  unfold fitRow; rw [List.range_succ, List.filter_append]; simp [h]
theorem fitRow_f {rs : List Rul} {e : Int} {ss : List Pr} {i m : Nat} (h : fitAt rs e ss i m = false) : fitRow rs e ss i (m + 1) = fitRow rs e ss i m := by
  unfold fitRow; rw [List.range_succ, List.filter_append]; simp [h]
theorem fitRow_pre {rs : List Rul} {e : Int} {ss : List Pr} {i k m : Nat} (h : k ≤ m) : ∃ post, fitRow rs e ss i m = fitRow rs e ss i k ++ post := by
  obtain ⟨d, rfl⟩ := Nat.exists_eq_add_of_le h
  clear h
  induction d with
  | zero => exact ⟨[], by simp⟩
  | succ d ih =>
    obtain ⟨post, hp⟩ := ih
    cases hf : fitAt rs e ss i (k + d) with
    | true => exact ⟨post ++ [(i, k + d)], by rw [← Nat.add_assoc, fitRow_t hf, hp, List.append_assoc]⟩
    | false => exact ⟨post, by rw [← Nat.add_assoc, fitRow_f hf, hp]⟩
theorem fitTo_succ (rs : List Rul) (e : Int) (ss : List Pr) (n : Nat) : fitTo rs e ss (n + 1) = fitTo rs e ss n ++ fitRow rs e ss n rs.length := by
  unfold fitTo; rw [List.range_succ, List.flatMap_append]; simp
theorem fitTo_pre {rs : List Rul} {e : Int} {ss : List Pr} {k m : Nat} (h : k ≤ m) : ∃ post, fitTo rs e ss m = fitTo rs e ss k ++ post := by
  obtain ⟨d, rfl⟩ := Nat.exists_eq_add_of_le h
  clear h
  induction d with
  | zero => exact ⟨[], by simp⟩
  | succ d ih =>
    obtain ⟨post, hp⟩ := ih
    exact ⟨post ++ fitRow rs e ss (k + d) rs.length, by rw [← Nat.add_assoc, fitTo_succ, hp, List.append_assoc]⟩
theorem fit_at {rs : List Rul} {e : Int} {ss : List Pr} {i k : Nat} (hi : i < ss.length) (hk : k < rs.length) (h : fitAt rs e ss i k = true) : ∃ post, fitL rs e ss = (fitTo rs e ss i ++ fitRow rs e ss i k) ++ (i, k) :: post := by
  obtain ⟨p1, h1⟩ := fitTo_pre (rs := rs) (e := e) (ss := ss) (show i + 1 ≤ ss.length by omega)
  obtain ⟨p2, h2⟩ := fitRow_pre (rs := rs) (e := e) (ss := ss) (i := i) (show k + 1 ≤ rs.length by omega)
  exact ⟨p2 ++ p1, by unfold fitL; rw [h1, fitTo_succ, h2, fitRow_t h]; simp [List.append_assoc]⟩

theorem fittings_h (rs : List Rul) (e : Int) (ss : List Pr) : HSpec env.P 179 [.sl (rs.map Rul.lv), typLV e ss] [] (.clos 207 [.hp 1 0 [], .hp 0 0 []]) [.box (.sl (rs.map Rul.lv)), .box (typLV e ss)] := by
  refine HSpec_of_code (E := env.x [] 0) env_ok.x (fn := Try.f179) Try.func179 rfl Try.call179 _ _ _ _ ?_
  ((repeat ((conv => whnf); first | refine brT ?_ | refine brF ?_)); conv => whnf)
  exact ⟨[.clos 207 [.hp 1 0 [], .hp 0 0 []]], rfl, rfl, .inl ⟨⟨rfl, trivial⟩, ⟨rfl, rfl, trivial⟩, rfl, rfl⟩⟩

theorem fittings_g (rs : List Rul) (e : Int) (ss : List Pr) (hl : ss.length ≤ Go.maxLen) (hr : rs.length ≤ Go.maxLen) : GSpec env.P 207 [.ref (typLV e ss), .ref (.sl (rs.map Rul.lv))] ((fitL rs e ss).map fitE) := by
  refine GSpec_of_code (E := env) env_ok (fn := Try.f207) Try.func207 rfl rfl (by kernel_rfl) Try.call207 _ _ ?_
  have hl' := hl
  unfold Go.maxLen at hl hr
  intro l
  ((repeat ((conv => whnf); first | refine brT ?_ | refine brF ?_)); conv => whnf)
  refine ⟨true, ?_⟩
  ((repeat ((conv => whnf); first | refine brT ?_ | refine brF ?_)); conv => whnf)
  intro _
  rw [List.length_map]
  ((repeat ((conv => whnf); first | refine brT ?_ | refine brF ?_)); conv => whnf)
  refine loopY_rule (α := Nat) (fun i => [(9, .int .i64 (i : Int))]) (fun _ => []) (fun i => some ((fitTo rs e ss i).map fitE)) (fun i => ss.length + 1 - i) (fun i => i ≤ ss.length) 0 (Nat.zero_le _) rfl 0 (fun _ => rfl) (.inl ⟨?_, trivial, rfl, rfl⟩) ?_
  · ((repeat ((conv => whnf); refine ⟨rfl, ?_⟩)); trivial)
  intro i hi
  ((repeat ((conv => whnf); first | refine brT ?_ | refine brF ?_)); conv => whnf)
  refine ⟨true, ?_⟩
  ((repeat ((conv => whnf); first | refine brT ?_ | refine brF ?_)); conv => whnf)
  (refine ⟨fun h1 => ?_, fun h1 => ?_⟩ <;> rw [h1])
  · have hlt : i < ss.length := by rw [ltI_t] at h1; omega
    ((repeat ((conv => whnf); first | refine brT ?_ | refine brF ?_)); conv => whnf)
    refine ⟨true, ?_⟩
    ((repeat ((conv => whnf); first | refine brT ?_ | refine brF ?_)); conv => whnf)
    refine ⟨true, ?_⟩
    ((repeat ((conv => whnf); first | refine brT ?_ | refine brF ?_)); conv => whnf)
    intro _
    ((repeat ((conv => whnf); first | refine brT ?_ | refine brF ?_)); conv => whnf)
    rw [List.length_map]
    refine loopY_rule (α := Nat) (fun k => [(14, .int .i64 (k : Int))]) (fun _ => []) (fun k => some ((fitTo rs e ss i).map fitE ++ (fitRow rs e ss i k).map fitE)) (fun k => rs.length + 1 - k) (fun k => k ≤ rs.length) 0 (Nat.zero_le _) ?_ 0 (fun _ => rfl) (.inl ⟨?_, trivial, rfl, rfl⟩) ?_
    · simp [fitRow]
    · ((repeat ((conv => whnf); refine ⟨rfl, ?_⟩)); trivial)
    intro k hk
    generalize hKK : yK _ = KK
    ((repeat ((conv => whnf); first | refine brT ?_ | refine brF ?_)); conv => whnf)
    refine ⟨true, ?_⟩
    ((repeat ((conv => whnf); first | refine brT ?_ | refine brF ?_)); conv => whnf)
    (refine ⟨fun h2 => ?_, fun h2 => ?_⟩ <;> rw [h2])
    · have hkt : k < rs.length := by rw [ltI_t] at h2; omega
      have hat : fitAt rs e ss i k = fitsB rs[k] e ss (i : Int) := by simp [fitAt, hkt]
      ((repeat ((conv => whnf); first | refine brT ?_ | refine brF ?_)); conv => whnf)
      refine ⟨true, ?_⟩
      ((repeat ((conv => whnf); first | refine brT ?_ | refine brF ?_)); conv => whnf)
      refine ⟨false, [0, 1, 2, 3, 4], [(1, 5), (1, 6), (0, 7), (0, 8), (0, 9), (2, 10), (1, 11), (1, 12)], by kernel_rfl, ?_⟩
      ((repeat ((conv => whnf); first | refine brT ?_ | refine brF ?_)); conv => whnf)
      refine ⟨k, rs[k].lv, rfl, by simp [hkt], rfl, ?_⟩
      ((repeat ((conv => whnf); first | refine brT ?_ | refine brF ?_)); conv => whnf)
      refine ⟨_, fits_impl rs[k] e ss (i : Int), ?_⟩
      rw [← hat]
      ((repeat ((conv => whnf); first | refine brT ?_ | refine brF ?_)); conv => whnf)
      (refine ⟨fun h3 => ?_, fun h3 => ?_⟩ <;> rw [h3])
      · have hx : ∃ post, (fitL rs e ss).map fitE = (fitTo rs e ss i).map fitE ++ (fitRow rs e ss i k).map fitE ++ [.int .i64 (i : Int), .int .i64 (k : Int)] :: post := by
          obtain ⟨post, hp⟩ := fit_at hlt hkt h3
          exact ⟨post.map fitE, by rw [hp]; simp [fitE]⟩
        have hs : (fitTo rs e ss i).map fitE ++ (fitRow rs e ss i k).map fitE ++ [[.int .i64 (i : Int), .int .i64 (k : Int)]] = (fitTo rs e ss i).map fitE ++ (fitRow rs e ss i (k + 1)).map fitE := by
          rw [fitRow_t h3, List.map_append, ← List.append_assoc]; rfl
        ((repeat ((conv => whnf); first | refine brT ?_ | refine brF ?_)); conv => whnf)
        refine ⟨_, _, Weak.idn ?_ trivial rfl, rfl, ?_⟩
        · ((repeat ((conv => whnf); refine ⟨rfl, ?_⟩)); trivial)
        ((repeat ((conv => whnf); first | refine brT ?_ | refine brF ?_)); conv => whnf)
        refine ⟨rfl, hx, ?_, ?_⟩
        · ((repeat ((conv => whnf); first | refine brT ?_ | refine brF ?_)); conv => whnf)
          rw [show notB true = false by simp [notB]]
          ((repeat ((conv => whnf); first | refine brT ?_ | refine brF ?_)); conv => whnf)
          refine ⟨true, ?_⟩
          ((repeat ((conv => whnf); first | refine brT ?_ | refine brF ?_)); conv => whnf)
          have e1 : LV.int .i64 (IntKind.i64.wrap ((k : Int) + 1)) = LV.int .i64 ((k + 1 : Nat) : Int) := by rw [wrap64 (by omega) (by omega)]; rfl
          refine ⟨rfl, k + 1, hkt, by omega, congrArg some hs, .inl ⟨?_, trivial, rfl, rfl⟩⟩
          ((repeat ((conv => whnf); first | refine ⟨e1, ?_⟩ | refine ⟨rfl, ?_⟩)); trivial)
        · ((repeat ((conv => whnf); first | refine brT ?_ | refine brF ?_)); conv => whnf)
          rw [show notB false = true by simp [notB]]
          ((repeat ((conv => whnf); first | refine brT ?_ | refine brF ?_)); conv => whnf)
          subst hKK
          ((repeat ((conv => whnf); first | refine brT ?_ | refine brF ?_)); conv => whnf)
          trivial
      · ((repeat ((conv => whnf); first | refine brT ?_ | refine brF ?_)); conv => whnf)
        refine ⟨true, ?_⟩
        ((repeat ((conv => whnf); first | refine brT ?_ | refine brF ?_)); conv => whnf)
        have e1 : LV.int .i64 (IntKind.i64.wrap ((k : Int) + 1)) = LV.int .i64 ((k + 1 : Nat) : Int) := by rw [wrap64 (by omega) (by omega)]; rfl
        refine ⟨rfl, k + 1, hkt, by omega, by rw [fitRow_f h3], .inl ⟨?_, trivial, rfl, rfl⟩⟩
        ((repeat ((conv => whnf); first | refine ⟨e1, ?_⟩ | refine ⟨rfl, ?_⟩)); trivial)
    · have hkn : k = rs.length := by rw [ltI_f] at h2; omega
      subst hkn
      subst hKK
      ((repeat ((conv => whnf); first | refine brT ?_ | refine brF ?_)); conv => whnf)
      refine ⟨true, ?_⟩
      ((repeat ((conv => whnf); first | refine brT ?_ | refine brF ?_)); conv => whnf)
      have e1 : LV.int .i64 (IntKind.i64.wrap ((i : Int) + 1)) = LV.int .i64 ((i + 1 : Nat) : Int) := by rw [wrap64 (by omega) (by omega)]; rfl
      refine ⟨rfl, i + 1, hlt, by omega, by rw [fitTo_succ, List.map_append], .inl ⟨?_, trivial, rfl, rfl⟩⟩
      ((repeat ((conv => whnf); first | refine ⟨e1, ?_⟩ | refine ⟨rfl, ?_⟩)); trivial)
  · have hin : i = ss.length := by rw [ltI_f] at h1; omega
    subst hin
    ((repeat ((conv => whnf); first | refine brT ?_ | refine brF ?_)); conv => whnf)
    rfl
end Go.Proofs.Ytpfipmjmblgjfaa

namespace Go.Proofs.Ytpfipmjmblgjfaa
open Go.Lg
set_option maxHeartbeats 1600000
set_option maxRecDepth 10000
set_option linter.unusedVariables false
set_option linter.unusedSimpArgs false

/-- The first of the fittings. -/
def firV : List (Nat × Nat) → LV
  | [] => .tup [.int .i64 0, .int .i64 0, .bool false]
  | p :: _ => .tup [.int .i64 (p.1 : Int), .int .i64 (p.2 : Int), .bool true]
theorem firstFit_s (rs : List Rul) (e : Int) (ss : List Pr) (hl : ss.length ≤ Go.maxLen) (hr : rs.length ≤ Go.maxLen) : HSpec env.P 200 [.sl (rs.map Rul.lv), typLV e ss] [] (firV (fitL rs e ss)) [] := by
  refine HSpec_of_codeR (E := env.x [179] 0) env_ok.x (fn := Try.f200) Try.func200 rfl (by kernel_rfl) Try.call200 _ _ _ _ ?_
  ((repeat ((conv => whnf); first | refine brT ?_ | refine brF ?_)); conv => whnf)
  refine ⟨[], _, _, _, _, fittings_h rs e ss, rfl, rfl, rfl, trivial, ?_⟩
  ((repeat ((conv => whnf); first | refine brT ?_ | refine brF ?_)); conv => whnf)
  refine rangeR_ruleS fitE (fitL rs e ss)
    (fun j => [.box (typLV e ss), .box (.int .i64 0), .box (.int .i64 0), .box (.bool false), .dead, .dead]) (fun j => j = 0)
    [.box (typLV e ss), .box (.int .i64 0), .box (.int .i64 0), .box (.bool false), .box (.sl (rs.map Rul.lv)), .box (typLV e ss)]
    (Weak.idn ?_ ?_ rfl) rfl rfl (fun K h => h) (fittings_g rs e ss hl hr) (by kernel_rfl) rfl 6 (fun _ => rfl) (fun _ _ => rfl) ?_ ?_
  · ((repeat ((conv => whnf); refine ⟨rfl, ?_⟩)); trivial)
  · exact ⟨rfl, rfl, rfl, rfl, rfl, rfl, trivial⟩
  · intro j y hy hj
    subst hj
    obtain ⟨tl, htl⟩ : ∃ tl, fitL rs e ss = y :: tl := by
      cases hL : fitL rs e ss with
      | nil => rw [hL] at hy; cases hy
      | cons z tl => rw [hL] at hy; simp at hy; exact ⟨tl, by rw [hy]⟩
    rw [htl]
    show codeW _ _ (setPs _ [.int .i64 (y.1 : Int), .int .i64 (y.2 : Int)] _) _ _
    ((repeat ((conv => whnf); first | refine brT ?_ | refine brF ?_)); conv => whnf)
    refine ⟨[.box (typLV e ss), .box (.int .i64 (y.1 : Int)), .box (.int .i64 (y.2 : Int)), .box (.bool true), .dead, .dead], Weak.idn ?_ ?_ rfl, ?_⟩
    · ((repeat ((conv => whnf); refine ⟨rfl, ?_⟩)); trivial)
    · exact ⟨rfl, rfl, rfl, rfl, rfl, rfl, trivial⟩
    ((repeat ((conv => whnf); first | refine brT ?_ | refine brF ?_)); conv => whnf)
    exact ⟨[.int .i64 (y.1 : Int), .int .i64 (y.2 : Int), .bool true], rfl, rfl, .inl ⟨⟨rfl, rfl, rfl, trivial⟩, trivial, rfl, rfl⟩⟩
  · intro hj
    have hL : fitL rs e ss = [] := List.length_eq_zero_iff.1 hj
    rw [hL]
    ((repeat ((conv => whnf); first | refine brT ?_ | refine brF ?_)); conv => whnf)
    exact ⟨[.int .i64 0, .int .i64 0, .bool false], rfl, rfl, .inl ⟨⟨rfl, rfl, rfl, trivial⟩, trivial, rfl, rfl⟩⟩
theorem firstFit_f (rs : List Rul) (e : Int) (ss : List Pr) (hl : ss.length ≤ Go.maxLen) (hr : rs.length ≤ Go.maxLen) : FSpec env.P 200 [.sl (rs.map Rul.lv), typLV e ss] (firV (fitL rs e ss)) := by
  have h := firstFit_s rs e ss hl hr
  cases hL : fitL rs e ss with
  | nil => rw [hL] at h; exact FSpec_of_HSpecT h (by simp [exsW, exW])
  | cons p tl => rw [hL] at h; exact FSpec_of_HSpecT h (by simp [exsW, exW])
theorem fit_mem {rs : List Rul} {e : Int} {ss : List Pr} {p : Nat × Nat} (h : p ∈ fitL rs e ss) : p.1 < ss.length ∧ ∃ hk : p.2 < rs.length, fitsB rs[p.2] e ss (p.1 : Int) = true := by
  unfold fitL fitTo fitRow at h
  simp only [List.mem_flatMap, List.mem_range, List.mem_map, List.mem_filter] at h
  obtain ⟨i, hi, k, ⟨hk, hf⟩, rfl⟩ := h
  refine ⟨hi, hk, ?_⟩
  unfold fitAt at hf
  rw [List.getElem?_eq_getElem hk] at hf
  exact hf
end Go.Proofs.Ytpfipmjmblgjfaa

namespace Go.Proofs.Ytpfipmjmblgjfaa
open Go.Lg
set_option maxHeartbeats 3200000
set_option maxRecDepth 10000
set_option linter.unusedVariables false
set_option linter.unusedSimpArgs false

/-- The steps of a reduction: the rule and what it gives. -/
def redL (rs : List Rul) (g : Int) : Nat → List Pr → List (Rul × List Pr)
  | 0, _ => []
  | n + 1, ss => match fitL rs g ss with
    | [] => []
    | p :: _ => match rs[p.2]? with
      | some r => (r, replS r ss p.1) :: redL rs g n (replS r ss p.1)
      | none => []
def redE (g : Int) (x : Rul × List Pr) : List LV := [x.1.lv, typLV g x.2]
/-- All the steps. -/
def redA (rs : List Rul) (g : Int) (ss : List Pr) : List (Rul × List Pr) := redL rs g (muT ss + 1) ss
theorem redL_no {rs : List Rul} {g : Int} {n : Nat} {ss : List Pr} (h : fitL rs g ss = []) : redL rs g n ss = [] := by
  cases n <;> simp [redL, h]
theorem redL_yes {rs : List Rul} {g : Int} {n : Nat} {ss : List Pr} {p : Nat × Nat} {tl : List (Nat × Nat)} (h : fitL rs g ss = p :: tl) (hk : p.2 < rs.length) :
    redL rs g (n + 1) ss = (rs[p.2], replS rs[p.2] ss p.1) :: redL rs g n (replS rs[p.2] ss p.1) := by
  simp [redL, h, hk]
theorem rulesB_all {rs : List Rul} (h : rulesB rs = true) : ∀ r ∈ rs, ruleB r = true := by
  intro r hr
  obtain ⟨i, hi, rfl⟩ := List.getElem_of_mem hr
  unfold rulesB at h
  simp only [Bool.and_eq_true, List.all_eq_true, List.mem_range] at h
  have := h.2 i hi
  unfold okAt at this
  rw [List.getElem?_eq_getElem hi] at this
  simp only [Bool.and_eq_true] at this
  exact this.1
theorem befP_len {a b : List Pr} (h : befP a b = true) : a.length ≤ b.length := by
  unfold befP at h
  cases e : eqI (a.length : Int) b.length <;> rw [e] at h <;> simp only at h
  · rw [ltI_t] at h; omega
  · rw [eqI_t] at e; omega
theorem replS_len {r : Rul} {g : Int} {ss : List Pr} {i : Nat} (hr : ruleB r = true) (hf : fitsB r g ss (i : Int) = true) : (replS r ss i).length ≤ ss.length ∧ i + r.fr.length ≤ ss.length := by
  have hb := befP_len (ruleB_okP hr).1
  unfold fitsB at hf
  simp only [Bool.and_eq_true, leI_t] at hf
  obtain ⟨⟨_, h2⟩, _⟩ := hf
  refine ⟨?_, by omega⟩
  unfold replS
  rw [List.length_append, List.length_append, List.length_take, List.length_drop]
  omega
theorem replaced_f (r : Rul) (e : Int) (ss : List Pr) (n : Nat) (hn : n + r.fr.length ≤ ss.length) (hl : ss.length ≤ Go.maxLen) (hb : (replS r ss n).length * 16 ≤ 140737488355328) :
    FSpec env.P 180 [r.lv, typLV e ss, .int .i64 (n : Int)] (.st [.int .i64 e, .own 112 2 ((replS r ss n).map Pr.lv)]) :=
  FSpec_of_HSpec (replaced_h r e ss n hn hl hb) (by simp [typHS, exW, exsW])

theorem reduction_h (rs : List Rul) (e : Int) (ss : List Pr) : HSpec env.P 155 [.sl (rs.map Rul.lv), typLV e ss] [] (.clos 199 [.hp 1 0 [], .hp 0 0 []]) [.box (.sl (rs.map Rul.lv)), .box (typLV e ss)] := by
  refine HSpec_of_code (E := env.x [] 0) env_ok.x (fn := Try.f155) Try.func155 rfl Try.call155 _ _ _ _ ?_
  ((repeat ((conv => whnf); first | refine brT ?_ | refine brF ?_)); conv => whnf)
  exact ⟨[.clos 199 [.hp 1 0 [], .hp 0 0 []]], rfl, rfl, .inl ⟨⟨rfl, trivial⟩, ⟨rfl, rfl, trivial⟩, rfl, rfl⟩⟩

theorem reduction_g (rs : List Rul) (e : Int) (ss : List Pr) (hr : rulesB rs = true) (ht : typB e ss = true) :
    GSpec env.P 199 [.ref (typLV e ss), .ref (.sl (rs.map Rul.lv))] ((redA rs (egoT e ss) ss).map (redE (egoT e ss))) := by
  refine GSpec_of_code (E := env) env_ok (fn := Try.f199) Try.func199 rfl rfl (by kernel_rfl) Try.call199 _ _ ?_
  have hego : egoR e ss = egoT e ss := by unfold egoR; rw [ht]
  have hall := rulesB_all hr
  have hrl : rs.length ≤ Go.maxLen := by
    unfold rulesB at hr; simp only [Bool.and_eq_true, leI_t] at hr; unfold Go.maxLen; omega
  have hsl : ss.length ≤ 8 := by
    unfold typB at ht; simp only [Bool.and_eq_true, leI_t] at ht; omega
  intro l
  ((repeat ((conv => whnf); first | refine brT ?_ | refine brF ?_)); conv => whnf)
  refine ⟨true, ?_⟩
  ((repeat ((conv => whnf); first | refine brT ?_ | refine brF ?_)); conv => whnf)
  refine ⟨_, withSex_spec e ss, ?_⟩
  rw [hego]
  generalize egoT e ss = g
  ((repeat ((conv => whnf); first | refine brT ?_ | refine brF ?_)); conv => whnf)
  refine loopY_rule (α := List (Rul × List Pr) × List Pr) (fun _ => []) (fun x => [.box (typLV g x.2)]) (fun x => some (x.1.map (redE g))) (fun x => muT x.2)
    (fun x => (∃ n, muT x.2 < n ∧ redA rs g ss = x.1 ++ redL rs g n x.2) ∧ (∀ p ∈ x.2, okP p) ∧ x.2.length ≤ 8) ([], ss) ⟨⟨muT ss + 1, Nat.lt_succ_self _, rfl⟩, typB_okP ht, hsl⟩ rfl 1 (fun _ => rfl) (.inl ⟨?_, ⟨rfl, trivial⟩, rfl, rfl⟩) ?_
  · ((repeat ((conv => whnf); refine ⟨rfl, ?_⟩)); trivial)
  rintro ⟨pre, cur⟩ ⟨⟨n, hn, hall2⟩, hok, hcl⟩
  simp only at hn hall2 hok hcl
  have hcm : cur.length ≤ Go.maxLen := by unfold Go.maxLen; omega
  have hF := firstFit_f rs g cur hcm hrl
  ((repeat ((conv => whnf); first | refine brT ?_ | refine brF ?_)); conv => whnf)
  refine ⟨true, ?_⟩
  ((repeat ((conv => whnf); first | refine brT ?_ | refine brF ?_)); conv => whnf)
  cases hL : fitL rs g cur with
  | nil =>
    rw [hL] at hF
    rw [redL_no hL, List.append_nil] at hall2
    refine ⟨_, hF, ?_⟩
    ((repeat ((conv => whnf); first | refine brT ?_ | refine brF ?_)); conv => whnf)
    refine ⟨true, ?_⟩
    ((repeat ((conv => whnf); first | refine brT ?_ | refine brF ?_)); conv => whnf)
    rw [show notB false = true by simp [notB]]
    ((repeat ((conv => whnf); first | refine brT ?_ | refine brF ?_)); conv => whnf)
    rw [hall2]
  | cons p tl =>
    obtain ⟨hi, hk, hfit⟩ := fit_mem (show p ∈ fitL rs g cur by rw [hL]; simp)
    rw [hL] at hF
    obtain ⟨m, rfl⟩ : ∃ m, n = m + 1 := ⟨n - 1, by omega⟩
    rw [redL_yes hL hk] at hall2
    have hrk := hall rs[p.2] (List.getElem_mem hk)
    obtain ⟨hmu, hok2⟩ := red_lt hrk hfit hok
    obtain ⟨hl2, hle⟩ := replS_len hrk hfit
    refine ⟨_, hF, ?_⟩
    ((repeat ((conv => whnf); first | refine brT ?_ | refine brF ?_)); conv => whnf)
    refine ⟨true, ?_⟩
    ((repeat ((conv => whnf); first | refine brT ?_ | refine brF ?_)); conv => whnf)
    rw [show notB true = false by simp [notB]]
    ((repeat ((conv => whnf); first | refine brT ?_ | refine brF ?_)); conv => whnf)
    refine ⟨true, ?_⟩
    ((repeat ((conv => whnf); first | refine brT ?_ | refine brF ?_)); conv => whnf)
    refine ⟨false, 7, by kernel_rfl, ?_⟩
    ((repeat ((conv => whnf); first | refine brT ?_ | refine brF ?_)); conv => whnf)
    refine ⟨p.2, rs[p.2].lv, rfl, by simp [hk], rfl, ?_⟩
    ((repeat ((conv => whnf); first | refine brT ?_ | refine brF ?_)); conv => whnf)
    refine ⟨_, replaced_f rs[p.2] g cur p.1 hle hcm (by omega), ?_⟩
    ((repeat ((conv => whnf); first | refine brT ?_ | refine brF ?_)); conv => whnf)
    refine ⟨false, [0, 1, 2, 3, 4, 5], [(2, 6), (1, 7)], by kernel_rfl, ?_⟩
    ((repeat ((conv => whnf); first | refine brT ?_ | refine brF ?_)); conv => whnf)
    refine ⟨p.2, rs[p.2].lv, rfl, by simp [hk], rfl, ?_⟩
    ((repeat ((conv => whnf); first | refine brT ?_ | refine brF ?_)); conv => whnf)
    have hx : ∃ post, (redA rs g ss).map (redE g) = pre.map (redE g) ++ redE g (rs[p.2], replS rs[p.2] cur p.1) :: post := ⟨_, by rw [hall2, List.map_append]; rfl⟩
    have hs : pre.map (redE g) ++ [redE g (rs[p.2], replS rs[p.2] cur p.1)] = (pre ++ [(rs[p.2], replS rs[p.2] cur p.1)]).map (redE g) := by rw [List.map_append]; rfl
    refine ⟨_, _, Weak.idn ?_ ?_ rfl, rfl, ?_⟩
    · ((repeat ((conv => whnf); refine ⟨rfl, ?_⟩)); trivial)
    · exact ⟨rfl, trivial⟩
    ((repeat ((conv => whnf); first | refine brT ?_ | refine brF ?_)); conv => whnf)
    refine ⟨rfl, hx, ?_, ?_⟩
    · ((repeat ((conv => whnf); first | refine brT ?_ | refine brF ?_)); conv => whnf)
      rw [show notB true = false by simp [notB]]
      ((repeat ((conv => whnf); first | refine brT ?_ | refine brF ?_)); conv => whnf)
      refine ⟨rfl, (pre ++ [(rs[p.2], replS rs[p.2] cur p.1)], replS rs[p.2] cur p.1), ⟨⟨m, by show muT (replS rs[p.2] cur p.1) < m; omega, by rw [hall2, List.append_assoc]; rfl⟩, hok2, by show (replS rs[p.2] cur p.1).length ≤ 8; omega⟩, hmu, congrArg some hs, .inl ⟨?_, ⟨rfl, trivial⟩, rfl, rfl⟩⟩
      ((repeat ((conv => whnf); refine ⟨rfl, ?_⟩)); trivial)
    · ((repeat ((conv => whnf); first | refine brT ?_ | refine brF ?_)); conv => whnf)
      rw [show notB false = true by simp [notB]]
      ((repeat ((conv => whnf); first | refine brT ?_ | refine brF ?_)); conv => whnf)
      trivial
end Go.Proofs.Ytpfipmjmblgjfaa

namespace Go.Proofs.Ytpfipmjmblgjfaa
open Go.Lg
set_option maxHeartbeats 1600000
set_option maxRecDepth 10000
set_option linter.unusedVariables false
set_option linter.unusedSimpArgs false

theorem l4Replace_h (r : Rul) (e : Int) (ss : List Pr) (n : Nat) (hn : n + r.fr.length ≤ ss.length) (hl : ss.length ≤ Go.maxLen) (hb : (replS r ss n).length * 16 ≤ 140737488355328) :
    HSpec env.P 175 [r.lv, typLV e ss, .int .i64 (n : Int)] [] (typHS (egoT e ss) 0 ((replS r ss n).map Pr.lv).length) [.arr 112 2 ((replS r ss n).map Pr.lv)] := by
  refine HSpec_of_code (E := env.x [] 0) env_ok.x (fn := Try.f175) Try.func175 rfl Try.call175 _ _ _ _ ?_
  have hl' := hl
  unfold Go.maxLen at hl
  have sz : ∀ x ∈ ss.map Pr.lv, x.size = 2 := prSzJ ss
  have hb2 := hb
  unfold replS at hb2
  rw [List.length_append, List.length_append] at hb2
  have b1 : ((ss.take n).map Pr.lv).length ≤ Go.maxLen := by rw [List.length_map]; unfold Go.maxLen; omega
  have b2 : ((ss.take n).map Pr.lv).length * 16 ≤ 140737488355328 := by rw [List.length_map]; omega
  have b3 : ((ss.take n).map Pr.lv ++ r.to.map Pr.lv).length ≤ Go.maxLen := by rw [List.length_append, List.length_map, List.length_map]; unfold Go.maxLen; omega
  have b4 : ((ss.take n).map Pr.lv ++ r.to.map Pr.lv).length * 16 ≤ 140737488355328 := by rw [List.length_append, List.length_map, List.length_map]; omega
  have b5 : ((ss.take n ++ r.to).map Pr.lv ++ (ss.drop (n + r.fr.length)).map Pr.lv).length ≤ Go.maxLen := by rw [List.length_append, List.length_map, List.length_map, List.length_append]; unfold Go.maxLen; omega
  have b6 : ((ss.take n ++ r.to).map Pr.lv ++ (ss.drop (n + r.fr.length)).map Pr.lv).length * 16 ≤ 140737488355328 := by rw [List.length_append, List.length_map, List.length_map, List.length_append]; omega
  ((repeat ((conv => whnf); first | refine brT ?_ | refine brF ?_)); conv => whnf)
  refine ⟨_, l3Ego_spec e ss, ?_⟩
  ((repeat ((conv => whnf); first | refine brT ?_ | refine brF ?_)); conv => whnf)
  refine ⟨false, 6, by kernel_rfl, ?_⟩
  ((repeat ((conv => whnf); first | refine brT ?_ | refine brF ?_)); conv => whnf)
  refine ⟨0, n, rfl, rfl, Nat.zero_le _, by simp; omega, sz, ?_⟩
  rw [List.drop_zero, Nat.sub_zero, ← List.map_take]
  ((repeat ((conv => whnf); first | refine brT ?_ | refine brF ?_)); conv => whnf)
  refine ⟨prSzJ (ss.take n), b1, b2, ?_⟩
  ((repeat ((conv => whnf); first | refine brT ?_ | refine brF ?_)); conv => whnf)
  refine ⟨prSzJ r.to, rfl, b3, b4, ?_⟩
  rw [← List.map_append]
  ((repeat ((conv => whnf); first | refine brT ?_ | refine brF ?_)); conv => whnf)
  refine ⟨false, 10, by kernel_rfl, ?_⟩
  ((repeat ((conv => whnf); first | refine brT ?_ | refine brF ?_)); conv => whnf)
  intro hf
  have elf : (r.fr.map Pr.lv).length = r.fr.length := List.length_map ..
  ((repeat ((conv => whnf); first | refine brT ?_ | refine brF ?_)); conv => whnf)
  rw [elf]
  rw [show IntKind.i64.wrap ((n : Int) + (r.fr.length : Int)) = ((n + r.fr.length : Nat) : Int) by rw [wrap64 (by omega) (by omega)]; omega]
  refine ⟨n + r.fr.length, (ss.map Pr.lv).length, rfl, rfl, by simp; omega, Nat.le_refl _, sz, ?_⟩
  rw [drop_take_all, ← List.map_drop]
  ((repeat ((conv => whnf); first | refine brT ?_ | refine brF ?_)); conv => whnf)
  refine ⟨prSzJ (ss.drop (n + r.fr.length)), rfl, b5, b6, ?_⟩
  rw [← List.map_append, List.append_assoc]
  ((repeat ((conv => whnf); first | refine brT ?_ | refine brF ?_)); conv => whnf)
  exact ⟨[typHS (egoT e ss) 0 ((replS r ss n).map Pr.lv).length], rfl, rfl, .inr ⟨[.old 6], ⟨rfl, rfl, trivial⟩, ⟨rfl, rfl, trivial⟩, rfl⟩⟩
end Go.Proofs.Ytpfipmjmblgjfaa

namespace Go.Proofs.Ytpfipmjmblgjfaa
open Go.Lg
set_option maxHeartbeats 1600000
set_option maxRecDepth 10000
set_option linter.unusedVariables false
set_option linter.unusedSimpArgs false

def rplE (r : Rul) (e : Int) (ss : List Pr) (i : Int) : Int := match fitsAtB r e ss i with | true => egoT e ss | false => 0
def rplL (r : Rul) (e : Int) (ss : List Pr) (i : Int) : List Pr := match fitsAtB r e ss i with | true => replS r ss i.toNat | false => []
def rplLV (r : Rul) (e : Int) (ss : List Pr) (i : Int) : LV := .tup [.st [.int .i64 (rplE r e ss i), .own 112 2 ((rplL r e ss i).map Pr.lv)], .bool (fitsAtB r e ss i)]
def rplHS (r : Rul) (e : Int) (ss : List Pr) (i : Int) : LV := .tup [typHS (rplE r e ss i) 0 ((rplL r e ss i).map Pr.lv).length, .bool (fitsAtB r e ss i)]
theorem rplLV_no {r : Rul} {e : Int} {ss : List Pr} {i : Int} (h : fitsAtB r e ss i = false) : rplLV r e ss i = .tup [.st [.int .i64 0, .own 112 2 []], .bool false] := by
  unfold rplLV rplE rplL; rw [h]; rfl
theorem rplLV_yes {r : Rul} {e : Int} {ss : List Pr} {i : Int} (h : fitsAtB r e ss i = true) : rplLV r e ss i = .tup [.st [.int .i64 (egoT e ss), .own 112 2 ((replS r ss i.toNat).map Pr.lv)], .bool true] := by
  unfold rplLV rplE rplL; rw [h]
theorem rplHS_no {r : Rul} {e : Int} {ss : List Pr} {i : Int} (h : fitsAtB r e ss i = false) : rplHS r e ss i = .tup [typHS 0 0 0, .bool false] ∧ rplL r e ss i = [] := by
  have e1 : rplL r e ss i = [] := by unfold rplL; rw [h]
  refine ⟨?_, e1⟩
  unfold rplHS rplE; rw [h, e1]; rfl
theorem rplHS_yes {r : Rul} {e : Int} {ss : List Pr} {i : Int} (h : fitsAtB r e ss i = true) : rplHS r e ss i = .tup [typHS (egoT e ss) 0 ((replS r ss i.toNat).map Pr.lv).length, .bool true] ∧ rplL r e ss i = replS r ss i.toNat := by
  have e1 : rplL r e ss i = replS r ss i.toNat := by unfold rplL; rw [h]
  refine ⟨?_, e1⟩
  unfold rplHS rplE; rw [h, e1]
theorem fits_le {r : Rul} {e : Int} {ss : List Pr} {i : Int} (h : fitsAtB r e ss i = true) : ∃ n : Nat, i = (n : Int) ∧ n + r.fr.length ≤ ss.length ∧ egoR e ss = egoT e ss := by
  unfold fitsAtB fitsB at h
  simp only [Bool.and_eq_true, leI_t] at h
  obtain ⟨_, h1, ⟨h2, h3⟩, _⟩ := h
  exact ⟨i.toNat, by omega, by omega, by unfold egoR; rw [h1]⟩
theorem repl_len {r : Rul} {ss : List Pr} {n : Nat} (hB : r.to.length + ss.length ≤ 2097152) : (replS r ss n).length * 16 ≤ 140737488355328 := by
  unfold replS
  rw [List.length_append, List.length_append, List.length_take, List.length_drop]
  omega
end Go.Proofs.Ytpfipmjmblgjfaa
namespace Go.Proofs.Ytpfipmjmblgjfaa
open Go.Lg
set_option maxHeartbeats 6400000
set_option maxRecDepth 10000
set_option linter.unusedVariables false
set_option linter.unusedSimpArgs false

/-! ### What a type may become by one rule -/
def rdAt (rs : List Rul) (g : Int) (ss : List Pr) (p : Nat × Nat) : Ty := match rs[p.2]? with | some r => ⟨g, replS r ss p.1⟩ | none => ⟨g, []⟩
def addT (acc : List Ty) (t : Ty) : List Ty := match acc.any (fun u => t.eq u) with | true => acc | false => acc ++ [t]
def rdS (rs : List Rul) (g : Int) (ss : List Pr) (l : List (Nat × Nat)) : List Ty := l.foldl (fun acc p => addT acc (rdAt rs g ss p)) []
theorem rdS_snoc (rs : List Rul) (g : Int) (ss : List Pr) (l : List (Nat × Nat)) (p : Nat × Nat) : rdS rs g ss (l ++ [p]) = addT (rdS rs g ss l) (rdAt rs g ss p) := by simp [rdS, List.foldl_append]
theorem addT_len (acc : List Ty) (t : Ty) : (addT acc t).length ≤ acc.length + 1 := by unfold addT; split <;> simp
theorem rdS_len (rs : List Rul) (g : Int) (ss : List Pr) (l : List (Nat × Nat)) : (rdS rs g ss l).length ≤ l.length := by
  have : ∀ (l : List (Nat × Nat)) (acc : List Ty), (l.foldl (fun acc p => addT acc (rdAt rs g ss p)) acc).length ≤ acc.length + l.length := by
    intro l
    induction l with
    | nil => intro acc; simp
    | cons p l ih =>
      intro acc
      have h1 := ih (addT acc (rdAt rs g ss p))
      have h2 := addT_len acc (rdAt rs g ss p)
      simp only [List.foldl_cons, List.length_cons]
      omega
  have := this l []
  simpa [rdS] using this
theorem fitRow_len (rs : List Rul) (e : Int) (ss : List Pr) (i m : Nat) : (fitRow rs e ss i m).length ≤ m := by
  unfold fitRow
  rw [List.length_map]
  exact Nat.le_trans (List.length_filter_le _ _) (by simp)
theorem fitTo_len (rs : List Rul) (e : Int) (ss : List Pr) : ∀ n, (fitTo rs e ss n).length ≤ n * rs.length
  | 0 => by simp [fitTo]
  | n + 1 => by
    rw [fitTo_succ, List.length_append, Nat.succ_mul]
    have := fitTo_len rs e ss n
    have := fitRow_len rs e ss n rs.length
    omega
theorem fits_leN {r : Rul} {e : Int} {ss : List Pr} {n : Nat} (h : fitsB r e ss (n : Int) = true) : n + r.fr.length ≤ ss.length := by
  unfold fitsB at h
  simp only [Bool.and_eq_true, leI_t] at h
  omega
theorem l4Reducts_h (rs : List Rul) (e : Int) (ss : List Pr) (hl : ss.length ≤ 8) (hr : rs.length ≤ 1048576) (hB : ∀ r ∈ rs, r.to.length + ss.length ≤ 2097152) :
    HSpec env.P 132 [.sl (rs.map Rul.lv), typLV e ss] [] (.hs 0 ((rdS rs (egoT e ss) ss (fitL rs (egoT e ss) ss)).map Ty.own).length) [.tree 52 2 ((rdS rs (egoT e ss) ss (fitL rs (egoT e ss) ss)).map Ty.own)] := by
  refine HSpec_of_code (E := env.x [175] 0) env_ok.x (fn := Try.f132) Try.func132 rfl Try.call132 _ _ _ _ ?_
  have hl' : ss.length ≤ Go.maxLen := by unfold Go.maxLen; omega
  have hr' : rs.length ≤ Go.maxLen := by unfold Go.maxLen; omega
  ((repeat ((conv => whnf); first | refine brT ?_ | refine brF ?_)); conv => whnf)
  intro _
  rw [show (List.map Pr.lv ss).length = ss.length from List.length_map ..]
  ((repeat ((conv => whnf); first | refine brT ?_ | refine brF ?_)); conv => whnf)
  have hN : ∀ (l : List (Nat × Nat)), l.length ≤ 8 * rs.length + rs.length → (rdS rs (egoT e ss) ss l).length ≤ 9437184 := fun l h => by have := rdS_len rs (egoT e ss) ss l; omega
  generalize hg : egoT e ss = g at hN ⊢
  refine loop_ruleR (α := Nat) [.old 0, .old 1] (fun i => [(14, .int .i64 (i : Int)), (6, .undef), (8, .undef), (9, .undef), (10, .undef), (5, .hs 1 ((rdS rs g ss (fitTo rs g ss i)).map Ty.own).length)]) (fun i => [.box (typLV e ss), .tree 52 2 ((rdS rs g ss (fitTo rs g ss i)).map Ty.own)]) (fun i => ss.length - i) (fun i => i ≤ ss.length) 0 (Nat.zero_le _) ?_ ?_
  · refine ⟨?_, ⟨rfl, rfl, rfl, rfl, trivial⟩, rfl⟩
    ((repeat ((conv => whnf); refine ⟨rfl, rfl, ?_⟩)); trivial)
  intro i hi
  generalize hK : kk _ = KK
  ((repeat ((conv => whnf); first | refine brT ?_ | refine brF ?_)); conv => whnf)
  (refine ⟨fun h1 => ?_, fun h1 => ?_⟩ <;> rw [h1])
  · have hlt : i < ss.length := by rw [ltI_t] at h1; omega
    ((repeat ((conv => whnf); first | refine brT ?_ | refine brF ?_)); conv => whnf)
    intro _
    rw [show (List.map Rul.lv rs).length = rs.length from List.length_map ..]
    ((repeat ((conv => whnf); first | refine brT ?_ | refine brF ?_)); conv => whnf)
    have hrow : fitTo rs g ss i = fitTo rs g ss i ++ fitRow rs g ss i 0 := by simp [fitRow]
    rw [hrow]
    refine loop_ruleR (α := Nat) [.old 0, .old 1] (fun k => [(19, .int .i64 (k : Int)), (8, .undef), (9, .undef), (5, .hs 1 ((rdS rs g ss (fitTo rs g ss i ++ fitRow rs g ss i k)).map Ty.own).length)]) (fun k => [.box (typLV e ss), .tree 52 2 ((rdS rs g ss (fitTo rs g ss i ++ fitRow rs g ss i k)).map Ty.own)]) (fun k => rs.length - k) (fun k => k ≤ rs.length) 0 (Nat.zero_le _) ?_ ?_
    · refine ⟨?_, ⟨rfl, rfl, rfl, rfl, trivial⟩, rfl⟩
      ((repeat ((conv => whnf); refine ⟨rfl, rfl, ?_⟩)); trivial)
    intro k hk
    generalize hK2 : kk _ = KK2
    ((repeat ((conv => whnf); first | refine brT ?_ | refine brF ?_)); conv => whnf)
    (refine ⟨fun h2 => ?_, fun h2 => ?_⟩ <;> rw [h2])
    · have hkt : k < rs.length := by rw [ltI_t] at h2; omega
      have e2 := step_i hkt hr'
      have hat : fitAt rs g ss i k = fitsB rs[k] g ss (i : Int) := by simp [fitAt, hkt]
      have hgk : (rs.map Rul.lv)[k]? = some rs[k].lv := by simp [hkt]
      have hBk := hB rs[k] (List.getElem_mem hkt)
      have hrd : rdAt rs g ss (i, k) = ⟨g, replS rs[k] ss i⟩ := by simp [rdAt, hkt]
      have hle : fitAt rs g ss i k = true → i + rs[k].fr.length ≤ ss.length := fun h => by
        rw [hat] at h
        exact fits_leN h
      have hF := l4Fits_spec rs[k] e ss (i : Int)
      rw [hg, ← hat] at hF
      have hRep : fitAt rs g ss i k = true → HSpec env.P 175 [rs[k].lv, typLV e ss, .int .i64 (i : Int)] [] (typHS g 0 ((replS rs[k] ss i).map Pr.lv).length) [.arr 112 2 ((replS rs[k] ss i).map Pr.lv)] := fun h => by
        have := l4Replace_h rs[k] e ss i (hle h) hl' (repl_len hBk)
        rw [hg] at this; exact this
      have hRlen : ∀ m, (rdS rs g ss (fitTo rs g ss i ++ fitRow rs g ss i m)).length ≤ (rdS rs g ss (fitTo rs g ss i ++ fitRow rs g ss i m)).length := fun _ => Nat.le_refl _
      have hbound : (rdS rs g ss (fitTo rs g ss i ++ fitRow rs g ss i k)).length ≤ 9437184 := hN _ (by
        rw [List.length_append]
        have a := fitTo_len rs g ss i
        have b := fitRow_len rs g ss i k
        have c : i * rs.length ≤ 8 * rs.length := Nat.mul_le_mul (by omega) (Nat.le_refl _)
        omega)
      have hT : fitAt rs g ss i k = true → fitTo rs g ss i ++ fitRow rs g ss i (k + 1) = (fitTo rs g ss i ++ fitRow rs g ss i k) ++ [(i, k)] := fun h => by rw [fitRow_t h, List.append_assoc]
      have hFf : fitAt rs g ss i k = false → fitTo rs g ss i ++ fitRow rs g ss i (k + 1) = fitTo rs g ss i ++ fitRow rs g ss i k := fun h => by rw [fitRow_f h]
      ((repeat ((conv => whnf); first | refine brT ?_ | refine brF ?_)); conv => whnf)
      refine ⟨k, rs[k].lv, rfl, hgk, rfl, ?_⟩
      ((repeat ((conv => whnf); first | refine brT ?_ | refine brF ?_)); conv => whnf)
      refine ⟨_, hF, ?_⟩
      ((repeat ((conv => whnf); first | refine brT ?_ | refine brF ?_)); conv => whnf)
      have hFf' := hFf
      generalize hfl : fitTo rs g ss i ++ fitRow rs g ss i k = l at hT hFf hbound ⊢
      (refine ⟨fun h3 => ?_, fun h3 => ?_⟩ <;> rw [h3])
      · rw [notB_t] at h3
        subst hK2
        ((repeat ((conv => whnf); first | refine brT ?_ | refine brF ?_)); conv => whnf)
        rw [← hfl, ← hFf' h3]
        refine round_endR [.old 0, .old 1] (k + 1) hkt (by omega) ⟨?_, ⟨rfl, rfl, rfl, rfl, trivial⟩, rfl⟩
        ((repeat ((conv => whnf); first | refine ⟨rfl, e2, ?_⟩ | refine ⟨rfl, rfl, ?_⟩)); trivial)
      · rw [notB_f] at h3
        have hr1 := hRep h3
        have hs1 := rdS_snoc rs g ss l (i, k)
        rw [← hT h3, hrd] at hs1
        generalize replS rs[k] ss i = T at hr1 hs1
        generalize rdS rs g ss l = R at hs1 hbound ⊢
        ((repeat ((conv => whnf); first | refine brT ?_ | refine brF ?_)); conv => whnf)
        refine ⟨[], _, _, _, _, hr1, rfl, rfl, rfl, trivial, ?_⟩
        ((repeat ((conv => whnf); first | refine brT ?_ | refine brF ?_)); conv => whnf)
        refine ⟨rfl, _, dms_ty R, ?_⟩
        ((repeat ((conv => whnf); first | refine brT ?_ | refine brF ?_)); conv => whnf)
        refine ⟨rfl, ?_⟩
        ((repeat ((conv => whnf); first | refine brT ?_ | refine brF ?_)); conv => whnf)
        refine ⟨_, l4In_spec ⟨g, T⟩ R, ?_⟩
        ((repeat ((conv => whnf); first | refine brT ?_ | refine brF ?_)); conv => whnf)
        (refine ⟨fun h4 => ?_, fun h4 => ?_⟩ <;> rw [h4])
        · rw [notB_t] at h4
          have hs2 : addT R ⟨g, T⟩ = R ++ [⟨g, T⟩] := by unfold addT; rw [h4]
          rw [hs2] at hs1
          ((repeat ((conv => whnf); first | refine brT ?_ | refine brF ?_)); conv => whnf)
          refine ⟨rfl, ?_⟩
          ((repeat ((conv => whnf); first | refine brT ?_ | refine brF ?_)); conv => whnf)
          have eL : R.map Ty.own ++ [LV.st [.int .i64 g, .own 112 2 (T.map Pr.lv)]] = (rdS rs g ss (fitTo rs g ss i ++ fitRow rs g ss i (k + 1))).map Ty.own := by rw [hs1, List.map_append]; rfl
          refine ⟨rfl, rfl, ?_, ?_, ?_⟩
          · simp; unfold Go.maxLen; omega
          · simp; omega
          rw [eL]
          subst hK2
          ((repeat ((conv => whnf); first | refine brT ?_ | refine brF ?_)); conv => whnf)
          refine round_endR [.old 0, .old 6] (k + 1) hkt (by omega) ⟨?_, ⟨rfl, rfl, rfl, rfl, trivial⟩, rfl⟩
          ((repeat ((conv => whnf); first | refine ⟨rfl, e2, ?_⟩ | refine ⟨rfl, rfl, ?_⟩)); trivial)
        · rw [notB_f] at h4
          have hs2 : addT R ⟨g, T⟩ = R := by unfold addT; rw [h4]
          rw [hs2] at hs1
          subst hK2
          ((repeat ((conv => whnf); first | refine brT ?_ | refine brF ?_)); conv => whnf)
          rw [← hs1]
          refine round_endR [.old 0, .old 1] (k + 1) hkt (by omega) ⟨?_, ⟨rfl, rfl, rfl, rfl, trivial⟩, rfl⟩
          ((repeat ((conv => whnf); first | refine ⟨rfl, e2, ?_⟩ | refine ⟨rfl, rfl, ?_⟩)); trivial)
    · have hkn : k = rs.length := by rw [ltI_f] at h2; omega
      subst hkn
      subst hK2
      subst hK
      ((repeat ((conv => whnf); first | refine brT ?_ | refine brF ?_)); conv => whnf)
      have e1 := step_i hlt hl'
      rw [← fitTo_succ]
      refine round_endR [.old 0, .old 1] (i + 1) hlt (by omega) ⟨?_, ⟨rfl, rfl, rfl, rfl, trivial⟩, rfl⟩
      ((repeat ((conv => whnf); first | refine ⟨rfl, e1, ?_⟩ | refine ⟨rfl, rfl, ?_⟩)); trivial)
  · have hin : i = ss.length := by rw [ltI_f] at h1; omega
    subst hin
    subst hK
    ((repeat ((conv => whnf); first | refine brT ?_ | refine brF ?_)); conv => whnf)
    exact ⟨[.hs 0 ((rdS rs g ss (fitL rs g ss)).map Ty.own).length], by simp [tupOf], rfl, .inr ⟨[.old 1], ⟨rfl, rfl, trivial⟩, ⟨rfl, rfl, trivial⟩, rfl⟩⟩
end Go.Proofs.Ytpfipmjmblgjfaa

namespace Go.Proofs.Ytpfipmjmblgjfaa
open Go.Lg
set_option maxHeartbeats 6400000
set_option maxRecDepth 10000
set_option linter.unusedVariables false
set_option linter.unusedSimpArgs false

theorem l4Reducts_v (rs : List Rul) (e : Int) (ss : List Pr) (hl : ss.length ≤ 8) (hr : rs.length ≤ 1048576) (hB : ∀ r ∈ rs, r.to.length + ss.length ≤ 2097152) :
    HSpec env.P 132 [.sl (rs.map Rul.lv), typLV e ss] [] (.hs 0 ((rdS rs (egoT e ss) ss (fitL rs (egoT e ss) ss)).map Ty.lv).length) [.arr 52 2 ((rdS rs (egoT e ss) ss (fitL rs (egoT e ss) ss)).map Ty.lv)] := by
  refine HSpec_of_code (E := env.x [] 0) env_ok.x (fn := Try.f132) Try.func132 rfl Try.call132 _ _ _ _ ?_
  have hl' : ss.length ≤ Go.maxLen := by unfold Go.maxLen; omega
  have hr' : rs.length ≤ Go.maxLen := by unfold Go.maxLen; omega
  ((repeat ((conv => whnf); first | refine brT ?_ | refine brF ?_)); conv => whnf)
  intro _
  rw [show (List.map Pr.lv ss).length = ss.length from List.length_map ..]
  ((repeat ((conv => whnf); first | refine brT ?_ | refine brF ?_)); conv => whnf)
  have hN : ∀ (l : List (Nat × Nat)), l.length ≤ 8 * rs.length + rs.length → (rdS rs (egoT e ss) ss l).length ≤ 9437184 := fun l h => by have := rdS_len rs (egoT e ss) ss l; omega
  generalize hg : egoT e ss = g at hN ⊢
  refine loop_ruleR (α := Nat) [.old 0, .old 1] (fun i => [(14, .int .i64 (i : Int)), (6, .undef), (8, .undef), (9, .undef), (10, .undef), (5, .hs 1 ((rdS rs g ss (fitTo rs g ss i)).map Ty.lv).length)]) (fun i => [.box (typLV e ss), .arr 52 2 ((rdS rs g ss (fitTo rs g ss i)).map Ty.lv)]) (fun i => ss.length - i) (fun i => i ≤ ss.length) 0 (Nat.zero_le _) ?_ ?_
  · refine ⟨?_, ⟨rfl, rfl, rfl, rfl, trivial⟩, rfl⟩
    ((repeat ((conv => whnf); refine ⟨rfl, rfl, ?_⟩)); trivial)
  intro i hi
  generalize hK : kk _ = KK
  ((repeat ((conv => whnf); first | refine brT ?_ | refine brF ?_)); conv => whnf)
  (refine ⟨fun h1 => ?_, fun h1 => ?_⟩ <;> rw [h1])
  · have hlt : i < ss.length := by rw [ltI_t] at h1; omega
    ((repeat ((conv => whnf); first | refine brT ?_ | refine brF ?_)); conv => whnf)
    intro _
    rw [show (List.map Rul.lv rs).length = rs.length from List.length_map ..]
    ((repeat ((conv => whnf); first | refine brT ?_ | refine brF ?_)); conv => whnf)
    have hrow : fitTo rs g ss i = fitTo rs g ss i ++ fitRow rs g ss i 0 := by simp [fitRow]
    rw [hrow]
    refine loop_ruleR (α := Nat) [.old 0, .old 1] (fun k => [(19, .int .i64 (k : Int)), (8, .undef), (9, .undef), (5, .hs 1 ((rdS rs g ss (fitTo rs g ss i ++ fitRow rs g ss i k)).map Ty.lv).length)]) (fun k => [.box (typLV e ss), .arr 52 2 ((rdS rs g ss (fitTo rs g ss i ++ fitRow rs g ss i k)).map Ty.lv)]) (fun k => rs.length - k) (fun k => k ≤ rs.length) 0 (Nat.zero_le _) ?_ ?_
    · refine ⟨?_, ⟨rfl, rfl, rfl, rfl, trivial⟩, rfl⟩
      ((repeat ((conv => whnf); refine ⟨rfl, rfl, ?_⟩)); trivial)
    intro k hk
    generalize hK2 : kk _ = KK2
    ((repeat ((conv => whnf); first | refine brT ?_ | refine brF ?_)); conv => whnf)
    (refine ⟨fun h2 => ?_, fun h2 => ?_⟩ <;> rw [h2])
    · have hkt : k < rs.length := by rw [ltI_t] at h2; omega
      have e2 := step_i hkt hr'
      have hat : fitAt rs g ss i k = fitsB rs[k] g ss (i : Int) := by simp [fitAt, hkt]
      have hgk : (rs.map Rul.lv)[k]? = some rs[k].lv := by simp [hkt]
      have hBk := hB rs[k] (List.getElem_mem hkt)
      have hrd : rdAt rs g ss (i, k) = ⟨g, replS rs[k] ss i⟩ := by simp [rdAt, hkt]
      have hle : fitAt rs g ss i k = true → i + rs[k].fr.length ≤ ss.length := fun h => by
        rw [hat] at h
        exact fits_leN h
      have hF := l4Fits_spec rs[k] e ss (i : Int)
      rw [hg, ← hat] at hF
      have hRep : fitAt rs g ss i k = true → FSpec env.P 175 [rs[k].lv, typLV e ss, .int .i64 (i : Int)] (.st [.int .i64 g, .own 112 2 ((replS rs[k] ss i).map Pr.lv)]) := fun h => by
        have := FSpec_of_HSpec (l4Replace_h rs[k] e ss i (hle h) hl' (repl_len hBk)) (r := .st [.int .i64 (egoT e ss), .own 112 2 ((replS rs[k] ss i).map Pr.lv)]) (by simp [typHS, exW, exsW])
        rw [hg] at this; exact this
      have hRlen : ∀ m, (rdS rs g ss (fitTo rs g ss i ++ fitRow rs g ss i m)).length ≤ (rdS rs g ss (fitTo rs g ss i ++ fitRow rs g ss i m)).length := fun _ => Nat.le_refl _
      have hbound : (rdS rs g ss (fitTo rs g ss i ++ fitRow rs g ss i k)).length ≤ 9437184 := hN _ (by
        rw [List.length_append]
        have a := fitTo_len rs g ss i
        have b := fitRow_len rs g ss i k
        have c : i * rs.length ≤ 8 * rs.length := Nat.mul_le_mul (by omega) (Nat.le_refl _)
        omega)
      have hT : fitAt rs g ss i k = true → fitTo rs g ss i ++ fitRow rs g ss i (k + 1) = (fitTo rs g ss i ++ fitRow rs g ss i k) ++ [(i, k)] := fun h => by rw [fitRow_t h, List.append_assoc]
      have hFf : fitAt rs g ss i k = false → fitTo rs g ss i ++ fitRow rs g ss i (k + 1) = fitTo rs g ss i ++ fitRow rs g ss i k := fun h => by rw [fitRow_f h]
      ((repeat ((conv => whnf); first | refine brT ?_ | refine brF ?_)); conv => whnf)
      refine ⟨k, rs[k].lv, rfl, hgk, rfl, ?_⟩
      ((repeat ((conv => whnf); first | refine brT ?_ | refine brF ?_)); conv => whnf)
      refine ⟨_, hF, ?_⟩
      ((repeat ((conv => whnf); first | refine brT ?_ | refine brF ?_)); conv => whnf)
      have hFf' := hFf
      generalize hfl : fitTo rs g ss i ++ fitRow rs g ss i k = l at hT hFf hbound ⊢
      (refine ⟨fun h3 => ?_, fun h3 => ?_⟩ <;> rw [h3])
      · rw [notB_t] at h3
        subst hK2
        ((repeat ((conv => whnf); first | refine brT ?_ | refine brF ?_)); conv => whnf)
        rw [← hfl, ← hFf' h3]
        refine round_endR [.old 0, .old 1] (k + 1) hkt (by omega) ⟨?_, ⟨rfl, rfl, rfl, rfl, trivial⟩, rfl⟩
        ((repeat ((conv => whnf); first | refine ⟨rfl, e2, ?_⟩ | refine ⟨rfl, rfl, ?_⟩)); trivial)
      · rw [notB_f] at h3
        have hr1 := hRep h3
        have hs1 := rdS_snoc rs g ss l (i, k)
        rw [← hT h3, hrd] at hs1
        generalize replS rs[k] ss i = T at hr1 hs1
        generalize rdS rs g ss l = R at hs1 hbound ⊢
        ((repeat ((conv => whnf); first | refine brT ?_ | refine brF ?_)); conv => whnf)
        refine ⟨_, hr1, ?_⟩
        ((repeat ((conv => whnf); first | refine brT ?_ | refine brF ?_)); conv => whnf)
        refine ⟨rfl, ?_⟩
        ((repeat ((conv => whnf); first | refine brT ?_ | refine brF ?_)); conv => whnf)
        refine ⟨_, l4In_spec ⟨g, T⟩ R, ?_⟩
        ((repeat ((conv => whnf); first | refine brT ?_ | refine brF ?_)); conv => whnf)
        (refine ⟨fun h4 => ?_, fun h4 => ?_⟩ <;> rw [h4])
        · rw [notB_t] at h4
          have hs2 : addT R ⟨g, T⟩ = R ++ [⟨g, T⟩] := by unfold addT; rw [h4]
          rw [hs2] at hs1
          ((repeat ((conv => whnf); first | refine brT ?_ | refine brF ?_)); conv => whnf)
          have eL : R.map Ty.lv ++ [LV.st [.int .i64 g, .sl (T.map Pr.lv)]] = (rdS rs g ss (fitTo rs g ss i ++ fitRow rs g ss i (k + 1))).map Ty.lv := by rw [hs1, List.map_append]; rfl
          refine ⟨rfl, rfl, ?_, ?_, ?_⟩
          · simp; unfold Go.maxLen; omega
          · simp; omega
          rw [eL]
          subst hK2
          ((repeat ((conv => whnf); first | refine brT ?_ | refine brF ?_)); conv => whnf)
          refine round_endR [.old 0, .old 5] (k + 1) hkt (by omega) ⟨?_, ⟨rfl, rfl, rfl, rfl, trivial⟩, rfl⟩
          ((repeat ((conv => whnf); first | refine ⟨rfl, e2, ?_⟩ | refine ⟨rfl, rfl, ?_⟩)); trivial)
        · rw [notB_f] at h4
          have hs2 : addT R ⟨g, T⟩ = R := by unfold addT; rw [h4]
          rw [hs2] at hs1
          subst hK2
          ((repeat ((conv => whnf); first | refine brT ?_ | refine brF ?_)); conv => whnf)
          rw [← hs1]
          refine round_endR [.old 0, .old 1] (k + 1) hkt (by omega) ⟨?_, ⟨rfl, rfl, rfl, rfl, trivial⟩, rfl⟩
          ((repeat ((conv => whnf); first | refine ⟨rfl, e2, ?_⟩ | refine ⟨rfl, rfl, ?_⟩)); trivial)
    · have hkn : k = rs.length := by rw [ltI_f] at h2; omega
      subst hkn
      subst hK2
      subst hK
      ((repeat ((conv => whnf); first | refine brT ?_ | refine brF ?_)); conv => whnf)
      have e1 := step_i hlt hl'
      rw [← fitTo_succ]
      refine round_endR [.old 0, .old 1] (i + 1) hlt (by omega) ⟨?_, ⟨rfl, rfl, rfl, rfl, trivial⟩, rfl⟩
      ((repeat ((conv => whnf); first | refine ⟨rfl, e1, ?_⟩ | refine ⟨rfl, rfl, ?_⟩)); trivial)
  · have hin : i = ss.length := by rw [ltI_f] at h1; omega
    subst hin
    subst hK
    ((repeat ((conv => whnf); first | refine brT ?_ | refine brF ?_)); conv => whnf)
    exact ⟨[.hs 0 ((rdS rs g ss (fitL rs g ss)).map Ty.lv).length], by simp [tupOf], rfl, .inr ⟨[.old 1], ⟨rfl, rfl, trivial⟩, ⟨rfl, rfl, trivial⟩, rfl⟩⟩
end Go.Proofs.Ytpfipmjmblgjfaa
