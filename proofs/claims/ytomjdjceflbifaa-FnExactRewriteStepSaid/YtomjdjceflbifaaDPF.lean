/- Contracts of functions of the program and of its model, told over readings. -/
import Derived.Test.YtomjdjceflbifaaDPE
import Derived.Test.YtomjdjceflbifaaDPD
import Derived.Test.YtomjdjceflbifaaDPC
import Derived.Test.YtomjdjceflbifaaDLgRN
import Derived.Test.YtomjdjceflbifaaDLgRM
namespace Go.Proofs.Ytomjdjceflbifaa
open Go.Lg
set_option maxHeartbeats 6400000
set_option maxRecDepth 10000
set_option linter.unusedVariables false
set_option linter.unusedSimpArgs false

def costR (r : Rul) : Nat := 3 + 2 * r.fr.length + 2 * r.to.length
def totR (rs : List Rul) : Nat := (rs.map costR).sum
theorem totR_snoc (rs : List Rul) (r : Rul) : totR (rs ++ [r]) = totR rs + costR r := by simp [totR]
theorem totR_take_succ {rs : List Rul} {i : Nat} (h : i < rs.length) : totR (rs.take (i + 1)) = totR (rs.take i) + costR rs[i] := by
  rw [List.take_succ_eq_append_getElem h, totR_snoc]
theorem totR_take_le (rs : List Rul) (i : Nat) : totR (rs.take i) ≤ totR rs := by
  have e : totR rs = totR (rs.take i) + totR (rs.drop i) := by unfold totR; rw [← List.sum_append, ← List.map_append, List.take_append_drop]
  omega
/-- A rule marked from a number on. -/
def markRul (k : Nat) (r : Rul) : Rul := ⟨mText k, ((k + 1 : Nat) : Int), ((k + 2 : Nat) : Int), markPrs (k + 3) r.fr.length, markPrs (k + 3 + 2 * r.fr.length) r.to.length⟩
def markRuls (k : Nat) (rs : List Rul) (i : Nat) : List Rul := (List.range i).map fun j => match rs[j]? with | some r => markRul (k + totR (rs.take j)) r | none => ⟨⟨#[]⟩, 0, 0, [], []⟩
def markRT (k : Nat) (rs : List Rul) (i : Nat) : List Rul := markRuls k rs i ++ rs.drop i
theorem markRuls_len (k : Nat) (rs : List Rul) (i : Nat) : (markRuls k rs i).length = i := by simp [markRuls]
theorem markRT_len {k : Nat} {rs : List Rul} {i : Nat} (h : i ≤ rs.length) : (markRT k rs i).length = rs.length := by simp [markRT, markRuls_len]; omega
theorem markRT_zero (k : Nat) (rs : List Rul) : markRT k rs 0 = rs := by simp [markRT, markRuls]
theorem markRT_get {k : Nat} {rs : List Rul} {i : Nat} (h : i < rs.length) : (markRT k rs i)[i]? = some rs[i] := by
  unfold markRT
  rw [List.getElem?_append_right (by rw [markRuls_len]; exact Nat.le_refl _), markRuls_len]
  simp [h]
theorem markRT_set {k : Nat} {rs : List Rul} {i : Nat} (h : i < rs.length) : (markRT k rs i).set i (markRul (k + totR (rs.take i)) rs[i]) = markRT k rs (i + 1) := by
  have e : markRuls k rs (i + 1) = markRuls k rs i ++ [markRul (k + totR (rs.take i)) rs[i]] := by simp [markRuls, List.range_succ, h]
  unfold markRT
  rw [e, List.drop_eq_getElem_cons h, List.set_append_right _ _ (by rw [markRuls_len]; exact Nat.le_refl _), markRuls_len, Nat.sub_self, List.set_cons_zero, List.append_assoc]
  rfl

theorem set_facts {M : List LV} {i : Nat} {x : LV} (h : i < M.length) : (M.set i x).length = M.length ∧ (M.set i x)[i]? = some x ∧ ∀ y, (M.set i x).set i y = M.set i y := by
  refine ⟨by simp, by simp [h], fun y => by simp⟩
theorem getP_at {xs : List LV} {i : Nat} {x : LV} (h : xs[i]? = some x) : getP (.st xs) [i] = some x := by simp only [getP, h]
theorem markRuleS_spec (rs : List Rul) (n : Nat) (hn : n = (rs.map rulO).length) (k : Nat) (h1 : k + totR rs ≤ 2305843009213693952) :
    HSpec env.P 24 [.hs 0 n, .int .i64 (k : Int)] [.tree 59 5 (rs.map rulO)] (.int .i64 ((k + totR rs : Nat) : Int)) [.tree 59 5 ((markRT k rs rs.length).map rulO)] := by
  subst hn
  refine HSpec_of_code (E := env.x [78] 1) env_ok.x (fn := Try.f24) Try.func24 rfl Try.call24 _ _ _ _ ?_
  ((repeat ((conv => whnf); first | refine brT ?_ | refine brF ?_)); conv => whnf)
  refine loop_rule (α := Nat) (fun i => [(5, .int .i64 (i : Int)), (1, .int .i64 ((k + totR (rs.take i) : Nat) : Int)), (0, .hs 0 ((markRT k rs i).map rulO).length)]) (fun i => [.tree 59 5 ((markRT k rs i).map rulO)]) (fun i => rs.length - i) (fun i => i ≤ rs.length) 0 (Nat.zero_le _) ?_ ?_
  · have e1 : LV.hs 0 (rs.map rulO).length = LV.hs 0 ((markRT k rs 0).map rulO).length := by rw [markRT_zero]
    have e2 : LV.int .i64 (k : Int) = LV.int .i64 ((k + totR (rs.take 0) : Nat) : Int) := by simp [totR]
    refine ⟨?_, ⟨congrArg (Blk.tree 59 5) (by rw [markRT_zero]), trivial⟩, rfl, rfl⟩
    repeat ((conv => whnf); first | refine ⟨e1, ?_⟩ | refine ⟨e2, ?_⟩ | refine ⟨rfl, ?_⟩)
    trivial
  intro i hi
  have hl : ((markRT k rs i).map rulO).length = rs.length := by rw [List.length_map, markRT_len hi]
  ((repeat ((conv => whnf); first | refine brT ?_ | refine brF ?_)); conv => whnf)
  refine ⟨rfl, fun hm => ?_⟩
  have hm' : rs.length ≤ Go.maxLen := by rw [← hl]; exact hm
  ((repeat ((conv => whnf); first | refine brT ?_ | refine brF ?_)); conv => whnf)
  (refine ⟨fun g1 => ?_, fun g1 => ?_⟩ <;> rw [g1])
  · have hlt : i < rs.length := by rw [ltI_t] at g1; omega
    have ht := totR_take_succ hlt
    have hle := totR_take_le rs (i + 1)
    have e := step_i hlt hm'
    have e5 : LV.hs 0 ((markRT k rs i).map rulO).length = LV.hs 0 ((markRT k rs (i + 1)).map rulO).length := by rw [hl, List.length_map, markRT_len (by omega)]
    have hg : ((markRT k rs i).map rulO)[i]? = some (rulO rs[i]) := by rw [List.getElem?_map, markRT_get hlt]; rfl
    have hfin : ((markRT k rs i).map rulO).set i (rulO (markRul (k + totR (rs.take i)) rs[i])) = (markRT k rs (i + 1)).map rulO := by rw [← markRT_set hlt, List.map_set]
    unfold costR at ht
    generalize (markRT k rs i).map rulO = M at hl hg hfin e5
    have hcell : LV.int .i64 ((k + totR (rs.take i) : Nat) : Int) = LV.int .i64 ((k + totR (rs.take i) : Nat) : Int) := rfl
    generalize hK : k + totR (rs.take i) = K at hfin
    ((repeat ((conv => whnf); first | refine brT ?_ | refine brF ?_)); conv => whnf)
    refine ⟨_, markText_spec K (by omega), ?_⟩
    ((repeat ((conv => whnf); first | refine brT ?_ | refine brF ?_)); conv => whnf)
    have hiM : i < M.length := by omega
    refine ⟨rfl, rfl, i, rfl, hiM, ?_⟩
    ((repeat ((conv => whnf); first | refine brT ?_ | refine brF ?_)); conv => whnf)
    refine ⟨rfl, by simp, _, by simp only [getP, hg]; rfl, rfl, by simp, ?_⟩
    ((repeat ((conv => whnf); first | refine brT ?_ | refine brF ?_)); conv => whnf)
    refine ⟨rfl, rfl, rulO rs[i], .str rs[i].name, M.set i (rulO ⟨mText K, rs[i].sex, rs[i].place, rs[i].fr, rs[i].to⟩), hg, rfl, rfl, rfl, ?_⟩
    obtain ⟨l1, g1', s1⟩ := set_facts (x := rulO ⟨mText K, rs[i].sex, rs[i].place, rs[i].fr, rs[i].to⟩) hiM
    generalize M.set i (rulO ⟨mText K, rs[i].sex, rs[i].place, rs[i].fr, rs[i].to⟩) = M1 at l1 g1' s1 ⊢
    have hiM1 : i < M1.length := by omega
    ((repeat ((conv => whnf); first | refine brT ?_ | refine brF ?_)); conv => whnf)
    rw [show IntKind.i64.wrap ((K : Int) + 1) = ((K + 1 : Nat) : Int) by rw [wrap64 (by omega) (by omega)]; rfl]
    refine ⟨l1.symm, rfl, i, rfl, by omega, ?_⟩
    ((repeat ((conv => whnf); first | refine brT ?_ | refine brF ?_)); conv => whnf)
    refine ⟨l1.symm, by simp, _, by simp only [getP, g1']; rfl, rfl, by simp, ?_⟩
    ((repeat ((conv => whnf); first | refine brT ?_ | refine brF ?_)); conv => whnf)
    refine ⟨l1.symm, rfl, _, .int .i64 rs[i].sex, M1.set i (rulO ⟨mText K, ((K + 1 : Nat) : Int), rs[i].place, rs[i].fr, rs[i].to⟩), g1', rfl, rfl, rfl, ?_⟩
    obtain ⟨l2, g2', s2⟩ := set_facts (x := rulO ⟨mText K, ((K + 1 : Nat) : Int), rs[i].place, rs[i].fr, rs[i].to⟩) hiM1
    generalize M1.set i (rulO ⟨mText K, ((K + 1 : Nat) : Int), rs[i].place, rs[i].fr, rs[i].to⟩) = M2 at l2 g2' s2 ⊢
    have hiM2 : i < M2.length := by omega
    ((repeat ((conv => whnf); first | refine brT ?_ | refine brF ?_)); conv => whnf)
    rw [show IntKind.i64.wrap (((K + 1 : Nat) : Int) + 1) = ((K + 2 : Nat) : Int) by rw [wrap64 (by omega) (by omega)]; rfl]
    refine ⟨by omega, rfl, i, rfl, by omega, ?_⟩
    ((repeat ((conv => whnf); first | refine brT ?_ | refine brF ?_)); conv => whnf)
    refine ⟨by omega, by simp, _, by simp only [getP, g2']; rfl, rfl, by simp, ?_⟩
    ((repeat ((conv => whnf); first | refine brT ?_ | refine brF ?_)); conv => whnf)
    refine ⟨by omega, rfl, _, .int .i64 rs[i].place, M2.set i (rulO ⟨mText K, ((K + 1 : Nat) : Int), ((K + 2 : Nat) : Int), rs[i].fr, rs[i].to⟩), g2', rfl, rfl, rfl, ?_⟩
    obtain ⟨l3, g3', s3⟩ := set_facts (x := rulO ⟨mText K, ((K + 1 : Nat) : Int), ((K + 2 : Nat) : Int), rs[i].fr, rs[i].to⟩) hiM2
    generalize M2.set i (rulO ⟨mText K, ((K + 1 : Nat) : Int), ((K + 2 : Nat) : Int), rs[i].fr, rs[i].to⟩) = M3 at l3 g3' s3 ⊢
    have hiM3 : i < M3.length := by omega
    ((repeat ((conv => whnf); first | refine brT ?_ | refine brF ?_)); conv => whnf)
    rw [show IntKind.i64.wrap (((K + 2 : Nat) : Int) + 1) = ((K + 3 : Nat) : Int) by rw [wrap64 (by omega) (by omega)]; rfl]
    refine ⟨by omega, rfl, i, rfl, by omega, ?_⟩
    ((repeat ((conv => whnf); first | refine brT ?_ | refine brF ?_)); conv => whnf)
    refine ⟨by omega, by simp, _, by simp only [getP, g3']; rfl, rfl, by simp, ?_⟩
    ((repeat ((conv => whnf); first | refine brT ?_ | refine brF ?_)); conv => whnf)
    refine ⟨by omega, _, _, g3', rfl, ?_⟩
    ((repeat ((conv => whnf); first | refine brT ?_ | refine brF ?_)); conv => whnf)
    refine ⟨[1], _, _, _, _, markStepS_spec rs[i].fr _ rfl (K + 3) (by omega), rfl, rfl, rfl, trivial, ?_⟩
    ((repeat ((conv => whnf); first | refine brT ?_ | refine brF ?_)); conv => whnf)
    refine ⟨by simp; omega, rfl, i, rfl, by simp; omega, ?_⟩
    ((repeat ((conv => whnf); first | refine brT ?_ | refine brF ?_)); conv => whnf)
    refine ⟨by simp [markPrs_len], ?_⟩
    ((repeat ((conv => whnf); first | refine brT ?_ | refine brF ?_)); conv => whnf)
    obtain ⟨l4, g4', s4⟩ := set_facts (x := rulO ⟨mText K, ((K + 1 : Nat) : Int), ((K + 2 : Nat) : Int), markPrs (K + 3) rs[i].fr.length, rs[i].to⟩) hiM3
    have hM4 : M.length = (M3.set i (rulO ⟨mText K, ((K + 1 : Nat) : Int), ((K + 2 : Nat) : Int), markPrs (K + 3) rs[i].fr.length, rs[i].to⟩)).length := by omega
    refine ⟨hM4, by simp, _, getP_at g4', rfl, by simp, ?_⟩
    ((repeat ((conv => whnf); first | refine brT ?_ | refine brF ?_)); conv => whnf)
    refine ⟨hM4, _, _, g4', rfl, ?_⟩
    ((repeat ((conv => whnf); first | refine brT ?_ | refine brF ?_)); conv => whnf)
    refine ⟨[2], _, _, _, _, markStepS_spec rs[i].to _ rfl (K + 3 + 2 * rs[i].fr.length) (by omega), rfl, rfl, rfl, trivial, ?_⟩
    ((repeat ((conv => whnf); first | refine brT ?_ | refine brF ?_)); conv => whnf)
    have e4 : LV.int .i64 ((K + 3 + 2 * rs[i].fr.length + 2 * rs[i].to.length : Nat) : Int) = LV.int .i64 ((k + totR (rs.take (i + 1)) : Nat) : Int) := by congr 2; omega
    have e6 : (M3.set i (rulO ⟨mText K, ((K + 1 : Nat) : Int), ((K + 2 : Nat) : Int), markPrs (K + 3) rs[i].fr.length, rs[i].to⟩)).set i (rulO (markRul K rs[i])) = (markRT k rs (i + 1)).map rulO := by rw [s4, s3, s2, s1]; exact hfin
    refine round_endR [.old 0] (i + 1) hlt (by omega) ⟨?_, ⟨by simp [markPrs_len], rfl, congrArg (Blk.tree 59 5) e6, trivial⟩, rfl⟩
    repeat ((conv => whnf); first | refine ⟨rfl, e, ?_⟩ | refine ⟨rfl, e4, ?_⟩ | refine ⟨rfl, e5, ?_⟩ | refine ⟨rfl, rfl, ?_⟩)
    trivial
  · have h3 : i = rs.length := by rw [ltI_f] at g1; omega
    subst h3
    ((repeat ((conv => whnf); first | refine brT ?_ | refine brF ?_)); conv => whnf)
    exact ⟨[.int .i64 ((k + totR (rs.take rs.length) : Nat) : Int)], by simp [tupOf], rfl, .inl ⟨⟨rfl, trivial⟩, ⟨rfl, trivial⟩, rfl, rfl⟩⟩
end Go.Proofs.Ytomjdjceflbifaa

namespace Go.Proofs.Ytomjdjceflbifaa
open Go.Lg
set_option maxHeartbeats 1600000
set_option maxRecDepth 10000
set_option linter.unusedVariables false
set_option linter.unusedSimpArgs false

/-- The fittings of rules in a type: by steps, then by rules. -/
def fitAt (rs : List Rul) (e : Int) (ss : List Pr) (i k : Nat) : Bool := match rs[k]? with | some r => fitsB r e ss (i : Int) | none => false
def fitRow (rs : List Rul) (e : Int) (ss : List Pr) (i m : Nat) : List (Nat × Nat) := ((List.range m).filter (fitAt rs e ss i)).map (Prod.mk i)
def fitTo (rs : List Rul) (e : Int) (ss : List Pr) (n : Nat) : List (Nat × Nat) := (List.range n).flatMap fun i => fitRow rs e ss i rs.length
def fitL (rs : List Rul) (e : Int) (ss : List Pr) : List (Nat × Nat) := fitTo rs e ss ss.length
def fitE (p : Nat × Nat) : List LV := [.int .i64 (p.1 : Int), .int .i64 (p.2 : Int)]
theorem fitRow_t {rs : List Rul} {e : Int} {ss : List Pr} {i m : Nat} (h : fitAt rs e ss i m = true) : fitRow rs e ss i (m + 1) = fitRow rs e ss i m ++ [(i, m)] := by
  unfold fitRow; rw [List.range_succ, List.filter_append]; simp [h]
theorem fitRow_f {rs : List Rul} {e : Int} {ss : List Pr} {i m : Nat} (h : fitAt rs e ss i m = false) : fitRow rs e ss i (m + 1) = fitRow rs e ss i m := by
  unfold fitRow; rw [List.range_succ, List.filter_append]; simp [h]
theorem fitRow_pre {rs : List Rul} {e : Int} {ss : List Pr} {i k m : Nat} (h : k ≤ m) : ∃ post, fitRow rs e ss i m = fitRow rs e ss i k ++ post := by
  obtain ⟨d, rfl⟩ := Nat.exists_eq_add_of_le h
  clear h
  induction d with
  | zero => exact ⟨[], by simp⟩
  | succ d ih =>
    obtain ⟨post, hp⟩ := ih
    cases hf : fitAt rs e ss i (k + d) with
    | true => exact ⟨post ++ [(i, k + d)], by rw [← Nat.add_assoc, fitRow_t hf, hp, List.append_assoc]⟩
    | false => exact ⟨post, by rw [← Nat.add_assoc, fitRow_f hf, hp]⟩
theorem fitTo_succ (rs : List Rul) (e : Int) (ss : List Pr) (n : Nat) : fitTo rs e ss (n + 1) = fitTo rs e ss n ++ fitRow rs e ss n rs.length := by
  unfold fitTo; rw [List.range_succ, List.flatMap_append]; simp
theorem fitTo_pre {rs : List Rul} {e : Int} {ss : List Pr} {k m : Nat} (h : k ≤ m) : ∃ post, fitTo rs e ss m = fitTo rs e ss k ++ post := by
  obtain ⟨d, rfl⟩ := Nat.exists_eq_add_of_le h
  clear h
  induction d with
  | zero => exact ⟨[], by simp⟩
  | succ d ih =>
    obtain ⟨post, hp⟩ := ih
    exact ⟨post ++ fitRow rs e ss (k + d) rs.length, by rw [← Nat.add_assoc, fitTo_succ, hp, List.append_assoc]⟩
theorem fit_at {rs : List Rul} {e : Int} {ss : List Pr} {i k : Nat} (hi : i < ss.length) (hk : k < rs.length) (h : fitAt rs e ss i k = true) : ∃ post, fitL rs e ss = (fitTo rs e ss i ++ fitRow rs e ss i k) ++ (i, k) :: post := by
  obtain ⟨p1, h1⟩ := fitTo_pre (rs := rs) (e := e) (ss := ss) (show i + 1 ≤ ss.length by omega)
  obtain ⟨p2, h2⟩ := fitRow_pre (rs := rs) (e := e) (ss := ss) (i := i) (show k + 1 ≤ rs.length by omega)
  exact ⟨p2 ++ p1, by unfold fitL; rw [h1, fitTo_succ, h2, fitRow_t h]; simp [List.append_assoc]⟩

theorem fittings_h (rs : List Rul) (e : Int) (ss : List Pr) : HSpec env.P 130 [.sl (rs.map Rul.lv), typLV e ss] [] (.clos 160 [.hp 1 0 [], .hp 0 0 []]) [.box (.sl (rs.map Rul.lv)), .box (typLV e ss)] := by
  refine HSpec_of_code (E := env.x [] 0) env_ok.x (fn := Try.f130) Try.func130 rfl Try.call130 _ _ _ _ ?_
  ((repeat ((conv => whnf); first | refine brT ?_ | refine brF ?_)); conv => whnf)
  exact ⟨[.clos 160 [.hp 1 0 [], .hp 0 0 []]], rfl, rfl, .inl ⟨⟨rfl, trivial⟩, ⟨rfl, rfl, trivial⟩, rfl, rfl⟩⟩

theorem fittings_g (rs : List Rul) (e : Int) (ss : List Pr) (hl : ss.length ≤ Go.maxLen) (hr : rs.length ≤ Go.maxLen) : GSpec env.P 160 [.ref (typLV e ss), .ref (.sl (rs.map Rul.lv))] ((fitL rs e ss).map fitE) := by
  refine GSpec_of_code (E := env) env_ok (fn := Try.f160) Try.func160 rfl rfl (by kernel_rfl) Try.call160 _ _ ?_
  have hl' := hl
  unfold Go.maxLen at hl hr
  intro l
  ((repeat ((conv => whnf); first | refine brT ?_ | refine brF ?_)); conv => whnf)
  refine ⟨true, ?_⟩
  ((repeat ((conv => whnf); first | refine brT ?_ | refine brF ?_)); conv => whnf)
  intro _
  rw [List.length_map]
  ((repeat ((conv => whnf); first | refine brT ?_ | refine brF ?_)); conv => whnf)
  refine loopY_rule (α := Nat) (fun i => [(9, .int .i64 (i : Int))]) (fun _ => []) (fun i => some ((fitTo rs e ss i).map fitE)) (fun i => ss.length + 1 - i) (fun i => i ≤ ss.length) 0 (Nat.zero_le _) rfl 0 (fun _ => rfl) (.inl ⟨?_, trivial, rfl, rfl⟩) ?_
  · ((repeat ((conv => whnf); refine ⟨rfl, ?_⟩)); trivial)
  intro i hi
  ((repeat ((conv => whnf); first | refine brT ?_ | refine brF ?_)); conv => whnf)
  refine ⟨true, ?_⟩
  ((repeat ((conv => whnf); first | refine brT ?_ | refine brF ?_)); conv => whnf)
  (refine ⟨fun h1 => ?_, fun h1 => ?_⟩ <;> rw [h1])
  · have hlt : i < ss.length := by rw [ltI_t] at h1; omega
    ((repeat ((conv => whnf); first | refine brT ?_ | refine brF ?_)); conv => whnf)
    refine ⟨true, ?_⟩
    ((repeat ((conv => whnf); first | refine brT ?_ | refine brF ?_)); conv => whnf)
    refine ⟨true, ?_⟩
    ((repeat ((conv => whnf); first | refine brT ?_ | refine brF ?_)); conv => whnf)
    intro _
    ((repeat ((conv => whnf); first | refine brT ?_ | refine brF ?_)); conv => whnf)
    rw [List.length_map]
    refine loopY_rule (α := Nat) (fun k => [(14, .int .i64 (k : Int))]) (fun _ => []) (fun k => some ((fitTo rs e ss i).map fitE ++ (fitRow rs e ss i k).map fitE)) (fun k => rs.length + 1 - k) (fun k => k ≤ rs.length) 0 (Nat.zero_le _) ?_ 0 (fun _ => rfl) (.inl ⟨?_, trivial, rfl, rfl⟩) ?_
    · simp [fitRow]
    · ((repeat ((conv => whnf); refine ⟨rfl, ?_⟩)); trivial)
    intro k hk
    generalize hKK : yK _ = KK
    ((repeat ((conv => whnf); first | refine brT ?_ | refine brF ?_)); conv => whnf)
    refine ⟨true, ?_⟩
    ((repeat ((conv => whnf); first | refine brT ?_ | refine brF ?_)); conv => whnf)
    (refine ⟨fun h2 => ?_, fun h2 => ?_⟩ <;> rw [h2])
    · have hkt : k < rs.length := by rw [ltI_t] at h2; omega
      have hat : fitAt rs e ss i k = fitsB rs[k] e ss (i : Int) := by simp [fitAt, hkt]
      ((repeat ((conv => whnf); first | refine brT ?_ | refine brF ?_)); conv => whnf)
      refine ⟨true, ?_⟩
      ((repeat ((conv => whnf); first | refine brT ?_ | refine brF ?_)); conv => whnf)
      refine ⟨false, [0, 1, 2, 3, 4], [(1, 5), (1, 6), (0, 7), (0, 8), (0, 9), (2, 10), (1, 11), (1, 12)], by kernel_rfl, ?_⟩
      ((repeat ((conv => whnf); first | refine brT ?_ | refine brF ?_)); conv => whnf)
      refine ⟨k, rs[k].lv, rfl, by simp [hkt], rfl, ?_⟩
      ((repeat ((conv => whnf); first | refine brT ?_ | refine brF ?_)); conv => whnf)
      refine ⟨_, fits_impl rs[k] e ss (i : Int), ?_⟩
      rw [← hat]
      ((repeat ((conv => whnf); first | refine brT ?_ | refine brF ?_)); conv => whnf)
      (refine ⟨fun h3 => ?_, fun h3 => ?_⟩ <;> rw [h3])
      · have hx : ∃ post, (fitL rs e ss).map fitE = (fitTo rs e ss i).map fitE ++ (fitRow rs e ss i k).map fitE ++ [.int .i64 (i : Int), .int .i64 (k : Int)] :: post := by
          obtain ⟨post, hp⟩ := fit_at hlt hkt h3
          exact ⟨post.map fitE, by rw [hp]; simp [fitE]⟩
        have hs : (fitTo rs e ss i).map fitE ++ (fitRow rs e ss i k).map fitE ++ [[.int .i64 (i : Int), .int .i64 (k : Int)]] = (fitTo rs e ss i).map fitE ++ (fitRow rs e ss i (k + 1)).map fitE := by
          rw [fitRow_t h3, List.map_append, ← List.append_assoc]; rfl
        ((repeat ((conv => whnf); first | refine brT ?_ | refine brF ?_)); conv => whnf)
        refine ⟨_, _, Weak.idn ?_ trivial rfl, rfl, ?_⟩
        · ((repeat ((conv => whnf); refine ⟨rfl, ?_⟩)); trivial)
        ((repeat ((conv => whnf); first | refine brT ?_ | refine brF ?_)); conv => whnf)
        refine ⟨rfl, hx, ?_, ?_⟩
        · ((repeat ((conv => whnf); first | refine brT ?_ | refine brF ?_)); conv => whnf)
          rw [show notB true = false by simp [notB]]
          ((repeat ((conv => whnf); first | refine brT ?_ | refine brF ?_)); conv => whnf)
          refine ⟨true, ?_⟩
          ((repeat ((conv => whnf); first | refine brT ?_ | refine brF ?_)); conv => whnf)
          have e1 : LV.int .i64 (IntKind.i64.wrap ((k : Int) + 1)) = LV.int .i64 ((k + 1 : Nat) : Int) := by rw [wrap64 (by omega) (by omega)]; rfl
          refine ⟨rfl, k + 1, hkt, by omega, congrArg some hs, .inl ⟨?_, trivial, rfl, rfl⟩⟩
          ((repeat ((conv => whnf); first | refine ⟨e1, ?_⟩ | refine ⟨rfl, ?_⟩)); trivial)
        · ((repeat ((conv => whnf); first | refine brT ?_ | refine brF ?_)); conv => whnf)
          rw [show notB false = true by simp [notB]]
          ((repeat ((conv => whnf); first | refine brT ?_ | refine brF ?_)); conv => whnf)
          subst hKK
          ((repeat ((conv => whnf); first | refine brT ?_ | refine brF ?_)); conv => whnf)
          trivial
      · ((repeat ((conv => whnf); first | refine brT ?_ | refine brF ?_)); conv => whnf)
        refine ⟨true, ?_⟩
        ((repeat ((conv => whnf); first | refine brT ?_ | refine brF ?_)); conv => whnf)
        have e1 : LV.int .i64 (IntKind.i64.wrap ((k : Int) + 1)) = LV.int .i64 ((k + 1 : Nat) : Int) := by rw [wrap64 (by omega) (by omega)]; rfl
        refine ⟨rfl, k + 1, hkt, by omega, by rw [fitRow_f h3], .inl ⟨?_, trivial, rfl, rfl⟩⟩
        ((repeat ((conv => whnf); first | refine ⟨e1, ?_⟩ | refine ⟨rfl, ?_⟩)); trivial)
    · have hkn : k = rs.length := by rw [ltI_f] at h2; omega
      subst hkn
      subst hKK
      ((repeat ((conv => whnf); first | refine brT ?_ | refine brF ?_)); conv => whnf)
      refine ⟨true, ?_⟩
      ((repeat ((conv => whnf); first | refine brT ?_ | refine brF ?_)); conv => whnf)
      have e1 : LV.int .i64 (IntKind.i64.wrap ((i : Int) + 1)) = LV.int .i64 ((i + 1 : Nat) : Int) := by rw [wrap64 (by omega) (by omega)]; rfl
      refine ⟨rfl, i + 1, hlt, by omega, by rw [fitTo_succ, List.map_append], .inl ⟨?_, trivial, rfl, rfl⟩⟩
      ((repeat ((conv => whnf); first | refine ⟨e1, ?_⟩ | refine ⟨rfl, ?_⟩)); trivial)
  · have hin : i = ss.length := by rw [ltI_f] at h1; omega
    subst hin
    ((repeat ((conv => whnf); first | refine brT ?_ | refine brF ?_)); conv => whnf)
    rfl
end Go.Proofs.Ytomjdjceflbifaa

namespace Go.Proofs.Ytomjdjceflbifaa
open Go.Lg
set_option maxHeartbeats 1600000
set_option maxRecDepth 10000
set_option linter.unusedVariables false
set_option linter.unusedSimpArgs false

/-- The first of the fittings. -/
def firV : List (Nat × Nat) → LV
  | [] => .tup [.int .i64 0, .int .i64 0, .bool false]
  | p :: _ => .tup [.int .i64 (p.1 : Int), .int .i64 (p.2 : Int), .bool true]
theorem firstFit_s (rs : List Rul) (e : Int) (ss : List Pr) (hl : ss.length ≤ Go.maxLen) (hr : rs.length ≤ Go.maxLen) : HSpec env.P 74 [.sl (rs.map Rul.lv), typLV e ss] [] (firV (fitL rs e ss)) [] := by
  refine HSpec_of_codeR (E := env.x [130] 0) env_ok.x (fn := Try.f74) Try.func74 rfl (by kernel_rfl) Try.call74 _ _ _ _ ?_
  ((repeat ((conv => whnf); first | refine brT ?_ | refine brF ?_)); conv => whnf)
  refine ⟨[], _, _, _, _, fittings_h rs e ss, rfl, rfl, rfl, trivial, ?_⟩
  ((repeat ((conv => whnf); first | refine brT ?_ | refine brF ?_)); conv => whnf)
  refine rangeR_ruleS fitE (fitL rs e ss)
    (fun j => [.box (typLV e ss), .box (.int .i64 0), .box (.int .i64 0), .box (.bool false), .dead, .dead]) (fun j => j = 0)
    [.box (typLV e ss), .box (.int .i64 0), .box (.int .i64 0), .box (.bool false), .box (.sl (rs.map Rul.lv)), .box (typLV e ss)]
    (Weak.idn ?_ ?_ rfl) rfl rfl (fun K h => h) (fittings_g rs e ss hl hr) (by kernel_rfl) rfl 6 (fun _ => rfl) (fun _ _ => rfl) ?_ ?_
  · ((repeat ((conv => whnf); refine ⟨rfl, ?_⟩)); trivial)
  · exact ⟨rfl, rfl, rfl, rfl, rfl, rfl, trivial⟩
  · intro j y hy hj
    subst hj
    obtain ⟨tl, htl⟩ : ∃ tl, fitL rs e ss = y :: tl := by
      cases hL : fitL rs e ss with
      | nil => rw [hL] at hy; cases hy
      | cons z tl => rw [hL] at hy; simp at hy; exact ⟨tl, by rw [hy]⟩
    rw [htl]
    show codeW _ _ (setPs _ [.int .i64 (y.1 : Int), .int .i64 (y.2 : Int)] _) _ _
    ((repeat ((conv => whnf); first | refine brT ?_ | refine brF ?_)); conv => whnf)
    refine ⟨[.box (typLV e ss), .box (.int .i64 (y.1 : Int)), .box (.int .i64 (y.2 : Int)), .box (.bool true), .dead, .dead], Weak.idn ?_ ?_ rfl, ?_⟩
    · ((repeat ((conv => whnf); refine ⟨rfl, ?_⟩)); trivial)
    · exact ⟨rfl, rfl, rfl, rfl, rfl, rfl, trivial⟩
    ((repeat ((conv => whnf); first | refine brT ?_ | refine brF ?_)); conv => whnf)
    exact ⟨[.int .i64 (y.1 : Int), .int .i64 (y.2 : Int), .bool true], rfl, rfl, .inl ⟨⟨rfl, rfl, rfl, trivial⟩, trivial, rfl, rfl⟩⟩
  · intro hj
    have hL : fitL rs e ss = [] := List.length_eq_zero_iff.1 hj
    rw [hL]
    ((repeat ((conv => whnf); first | refine brT ?_ | refine brF ?_)); conv => whnf)
    exact ⟨[.int .i64 0, .int .i64 0, .bool false], rfl, rfl, .inl ⟨⟨rfl, rfl, rfl, trivial⟩, trivial, rfl, rfl⟩⟩
theorem firstFit_f (rs : List Rul) (e : Int) (ss : List Pr) (hl : ss.length ≤ Go.maxLen) (hr : rs.length ≤ Go.maxLen) : FSpec env.P 74 [.sl (rs.map Rul.lv), typLV e ss] (firV (fitL rs e ss)) := by
  have h := firstFit_s rs e ss hl hr
  cases hL : fitL rs e ss with
  | nil => rw [hL] at h; exact FSpec_of_HSpecT h (by simp [exsW, exW])
  | cons p tl => rw [hL] at h; exact FSpec_of_HSpecT h (by simp [exsW, exW])
theorem fit_mem {rs : List Rul} {e : Int} {ss : List Pr} {p : Nat × Nat} (h : p ∈ fitL rs e ss) : p.1 < ss.length ∧ ∃ hk : p.2 < rs.length, fitsB rs[p.2] e ss (p.1 : Int) = true := by
  unfold fitL fitTo fitRow at h
  simp only [List.mem_flatMap, List.mem_range, List.mem_map, List.mem_filter] at h
  obtain ⟨i, hi, k, ⟨hk, hf⟩, rfl⟩ := h
  refine ⟨hi, hk, ?_⟩
  unfold fitAt at hf
  rw [List.getElem?_eq_getElem hk] at hf
  exact hf
end Go.Proofs.Ytomjdjceflbifaa

namespace Go.Proofs.Ytomjdjceflbifaa
open Go.Lg
set_option maxHeartbeats 1600000
set_option maxRecDepth 10000
set_option linter.unusedVariables false
set_option linter.unusedSimpArgs false

theorem l4Replace_h (r : Rul) (e : Int) (ss : List Pr) (n : Nat) (hn : n + r.fr.length ≤ ss.length) (hl : ss.length ≤ Go.maxLen) (hb : (replS r ss n).length * 16 ≤ 140737488355328) :
    HSpec env.P 125 [r.lv, typLV e ss, .int .i64 (n : Int)] [] (typHS (egoT e ss) 0 ((replS r ss n).map Pr.lv).length) [.arr 96 2 ((replS r ss n).map Pr.lv)] := by
  refine HSpec_of_code (E := env.x [] 0) env_ok.x (fn := Try.f125) Try.func125 rfl Try.call125 _ _ _ _ ?_
  have hl' := hl
  unfold Go.maxLen at hl
  have sz : ∀ x ∈ ss.map Pr.lv, x.size = 2 := prSzJ ss
  have hb2 := hb
  unfold replS at hb2
  rw [List.length_append, List.length_append] at hb2
  have b1 : ((ss.take n).map Pr.lv).length ≤ Go.maxLen := by rw [List.length_map]; unfold Go.maxLen; omega
  have b2 : ((ss.take n).map Pr.lv).length * 16 ≤ 140737488355328 := by rw [List.length_map]; omega
  have b3 : ((ss.take n).map Pr.lv ++ r.to.map Pr.lv).length ≤ Go.maxLen := by rw [List.length_append, List.length_map, List.length_map]; unfold Go.maxLen; omega
  have b4 : ((ss.take n).map Pr.lv ++ r.to.map Pr.lv).length * 16 ≤ 140737488355328 := by rw [List.length_append, List.length_map, List.length_map]; omega
  have b5 : ((ss.take n ++ r.to).map Pr.lv ++ (ss.drop (n + r.fr.length)).map Pr.lv).length ≤ Go.maxLen := by rw [List.length_append, List.length_map, List.length_map, List.length_append]; unfold Go.maxLen; omega
  have b6 : ((ss.take n ++ r.to).map Pr.lv ++ (ss.drop (n + r.fr.length)).map Pr.lv).length * 16 ≤ 140737488355328 := by rw [List.length_append, List.length_map, List.length_map, List.length_append]; omega
  ((repeat ((conv => whnf); first | refine brT ?_ | refine brF ?_)); conv => whnf)
  refine ⟨_, l3Ego_spec e ss, ?_⟩
  ((repeat ((conv => whnf); first | refine brT ?_ | refine brF ?_)); conv => whnf)
  refine ⟨false, 6, by kernel_rfl, ?_⟩
  ((repeat ((conv => whnf); first | refine brT ?_ | refine brF ?_)); conv => whnf)
  refine ⟨0, n, rfl, rfl, Nat.zero_le _, by simp; omega, sz, ?_⟩
  rw [List.drop_zero, Nat.sub_zero, ← List.map_take]
  ((repeat ((conv => whnf); first | refine brT ?_ | refine brF ?_)); conv => whnf)
  refine ⟨prSzJ (ss.take n), b1, b2, ?_⟩
  ((repeat ((conv => whnf); first | refine brT ?_ | refine brF ?_)); conv => whnf)
  refine ⟨prSzJ r.to, rfl, b3, b4, ?_⟩
  rw [← List.map_append]
  ((repeat ((conv => whnf); first | refine brT ?_ | refine brF ?_)); conv => whnf)
  refine ⟨false, 10, by kernel_rfl, ?_⟩
  ((repeat ((conv => whnf); first | refine brT ?_ | refine brF ?_)); conv => whnf)
  intro hf
  have elf : (r.fr.map Pr.lv).length = r.fr.length := List.length_map ..
  ((repeat ((conv => whnf); first | refine brT ?_ | refine brF ?_)); conv => whnf)
  rw [elf]
  rw [show IntKind.i64.wrap ((n : Int) + (r.fr.length : Int)) = ((n + r.fr.length : Nat) : Int) by rw [wrap64 (by omega) (by omega)]; omega]
  refine ⟨n + r.fr.length, (ss.map Pr.lv).length, rfl, rfl, by simp; omega, Nat.le_refl _, sz, ?_⟩
  rw [drop_take_all, ← List.map_drop]
  ((repeat ((conv => whnf); first | refine brT ?_ | refine brF ?_)); conv => whnf)
  refine ⟨prSzJ (ss.drop (n + r.fr.length)), rfl, b5, b6, ?_⟩
  rw [← List.map_append, List.append_assoc]
  ((repeat ((conv => whnf); first | refine brT ?_ | refine brF ?_)); conv => whnf)
  exact ⟨[typHS (egoT e ss) 0 ((replS r ss n).map Pr.lv).length], rfl, rfl, .inr ⟨[.old 6], ⟨rfl, rfl, trivial⟩, ⟨rfl, rfl, trivial⟩, rfl⟩⟩
end Go.Proofs.Ytomjdjceflbifaa

namespace Go.Proofs.Ytomjdjceflbifaa
open Go.Lg
set_option maxHeartbeats 1600000
set_option maxRecDepth 10000
set_option linter.unusedVariables false
set_option linter.unusedSimpArgs false

def rplE (r : Rul) (e : Int) (ss : List Pr) (i : Int) : Int := match fitsAtB r e ss i with | true => egoT e ss | false => 0
def rplL (r : Rul) (e : Int) (ss : List Pr) (i : Int) : List Pr := match fitsAtB r e ss i with | true => replS r ss i.toNat | false => []
def rplLV (r : Rul) (e : Int) (ss : List Pr) (i : Int) : LV := .tup [.st [.int .i64 (rplE r e ss i), .own 96 2 ((rplL r e ss i).map Pr.lv)], .bool (fitsAtB r e ss i)]
def rplHS (r : Rul) (e : Int) (ss : List Pr) (i : Int) : LV := .tup [typHS (rplE r e ss i) 0 ((rplL r e ss i).map Pr.lv).length, .bool (fitsAtB r e ss i)]
theorem rplLV_no {r : Rul} {e : Int} {ss : List Pr} {i : Int} (h : fitsAtB r e ss i = false) : rplLV r e ss i = .tup [.st [.int .i64 0, .own 96 2 []], .bool false] := by
  unfold rplLV rplE rplL; rw [h]; rfl
theorem rplLV_yes {r : Rul} {e : Int} {ss : List Pr} {i : Int} (h : fitsAtB r e ss i = true) : rplLV r e ss i = .tup [.st [.int .i64 (egoT e ss), .own 96 2 ((replS r ss i.toNat).map Pr.lv)], .bool true] := by
  unfold rplLV rplE rplL; rw [h]
theorem rplHS_no {r : Rul} {e : Int} {ss : List Pr} {i : Int} (h : fitsAtB r e ss i = false) : rplHS r e ss i = .tup [typHS 0 0 0, .bool false] ∧ rplL r e ss i = [] := by
  have e1 : rplL r e ss i = [] := by unfold rplL; rw [h]
  refine ⟨?_, e1⟩
  unfold rplHS rplE; rw [h, e1]; rfl
theorem rplHS_yes {r : Rul} {e : Int} {ss : List Pr} {i : Int} (h : fitsAtB r e ss i = true) : rplHS r e ss i = .tup [typHS (egoT e ss) 0 ((replS r ss i.toNat).map Pr.lv).length, .bool true] ∧ rplL r e ss i = replS r ss i.toNat := by
  have e1 : rplL r e ss i = replS r ss i.toNat := by unfold rplL; rw [h]
  refine ⟨?_, e1⟩
  unfold rplHS rplE; rw [h, e1]
theorem fits_le {r : Rul} {e : Int} {ss : List Pr} {i : Int} (h : fitsAtB r e ss i = true) : ∃ n : Nat, i = (n : Int) ∧ n + r.fr.length ≤ ss.length ∧ egoR e ss = egoT e ss := by
  unfold fitsAtB fitsB at h
  simp only [Bool.and_eq_true, leI_t] at h
  obtain ⟨_, h1, ⟨h2, h3⟩, _⟩ := h
  exact ⟨i.toNat, by omega, by omega, by unfold egoR; rw [h1]⟩
theorem repl_len {r : Rul} {ss : List Pr} {n : Nat} (hB : r.to.length + ss.length ≤ 2097152) : (replS r ss n).length * 16 ≤ 140737488355328 := by
  unfold replS
  rw [List.length_append, List.length_append, List.length_take, List.length_drop]
  omega
end Go.Proofs.Ytomjdjceflbifaa
namespace Go.Proofs.Ytomjdjceflbifaa
open Go.Lg
set_option maxHeartbeats 3200000
set_option maxRecDepth 10000
set_option linter.unusedVariables false
set_option linter.unusedSimpArgs false

/-- What one step of a reduction gives. -/
def rwP (rs : List Rul) (e : Int) (ss : List Pr) : Option (Nat × Nat) := match rulesB rs && typB e ss with | true => (fitL rs (egoT e ss) ss).head? | false => none
def rwE (rs : List Rul) (e : Int) (ss : List Pr) : Int := match rwP rs e ss with | some _ => egoT e ss | none => 0
def rwL (rs : List Rul) (e : Int) (ss : List Pr) : List Pr := match rwP rs e ss with | some p => (match rs[p.2]? with | some r => replS r ss p.1 | none => []) | none => []
def rwI (rs : List Rul) (e : Int) (ss : List Pr) : Int := match rwP rs e ss with | some p => (p.1 : Int) | none => 0
def rwK (rs : List Rul) (e : Int) (ss : List Pr) : Int := match rwP rs e ss with | some p => (p.2 : Int) | none => 0
def rwB (rs : List Rul) (e : Int) (ss : List Pr) : Bool := match rwP rs e ss with | some _ => true | none => false
def rwHS (rs : List Rul) (e : Int) (ss : List Pr) : LV := .tup [typHS (rwE rs e ss) 0 ((rwL rs e ss).map Pr.lv).length, .int .i64 (rwK rs e ss), .int .i64 (rwI rs e ss), .bool (rwB rs e ss)]
def rwLV (rs : List Rul) (e : Int) (ss : List Pr) : LV := .tup [.st [.int .i64 (rwE rs e ss), .own 96 2 ((rwL rs e ss).map Pr.lv)], .int .i64 (rwK rs e ss), .int .i64 (rwI rs e ss), .bool (rwB rs e ss)]
theorem rwL_no {rs : List Rul} {e : Int} {ss : List Pr} (h : rwP rs e ss = none) : rwL rs e ss = [] := by unfold rwL; rw [h]
theorem rwHS_no {rs : List Rul} {e : Int} {ss : List Pr} (h : rwP rs e ss = none) : rwHS rs e ss = .tup [typHS 0 0 0, .int .i64 0, .int .i64 0, .bool false] := by
  unfold rwHS; rw [rwL_no h]; unfold rwE rwK rwI rwB; rw [h]; rfl
theorem rwLV_no {rs : List Rul} {e : Int} {ss : List Pr} (h : rwP rs e ss = none) : rwLV rs e ss = .tup [.st [.int .i64 0, .own 96 2 []], .int .i64 0, .int .i64 0, .bool false] := by
  unfold rwLV; rw [rwL_no h]; unfold rwE rwK rwI rwB; rw [h]; rfl
theorem rwL_yes {rs : List Rul} {e : Int} {ss : List Pr} {p : Nat × Nat} (h : rwP rs e ss = some p) (hk : p.2 < rs.length) : rwL rs e ss = replS rs[p.2] ss p.1 := by
  unfold rwL; rw [h]; simp [hk]
theorem rwHS_yes {rs : List Rul} {e : Int} {ss : List Pr} {p : Nat × Nat} (h : rwP rs e ss = some p) (hk : p.2 < rs.length) : rwHS rs e ss = .tup [typHS (egoT e ss) 0 ((replS rs[p.2] ss p.1).map Pr.lv).length, .int .i64 (p.2 : Int), .int .i64 (p.1 : Int), .bool true] := by
  unfold rwHS; rw [rwL_yes h hk]; unfold rwE rwK rwI rwB; rw [h]
theorem rwLV_yes {rs : List Rul} {e : Int} {ss : List Pr} {p : Nat × Nat} (h : rwP rs e ss = some p) (hk : p.2 < rs.length) : rwLV rs e ss = .tup [.st [.int .i64 (egoT e ss), .own 96 2 ((replS rs[p.2] ss p.1).map Pr.lv)], .int .i64 (p.2 : Int), .int .i64 (p.1 : Int), .bool true] := by
  unfold rwLV; rw [rwL_yes h hk]; unfold rwE rwK rwI rwB; rw [h]
theorem rwP_f {rs : List Rul} {e : Int} {ss : List Pr} (h : (rulesB rs && typB e ss) = false) : rwP rs e ss = none := by unfold rwP; rw [h]
theorem rwP_t {rs : List Rul} {e : Int} {ss : List Pr} (h : rulesB rs = true) (h1 : typB e ss = true) : rwP rs e ss = (fitL rs (egoT e ss) ss).head? := by unfold rwP; rw [h, h1]; rfl
theorem fit_le {rs : List Rul} {e : Int} {ss : List Pr} {p : Nat × Nat} (h : p ∈ fitL rs e ss) (hk : p.2 < rs.length) : p.1 + rs[p.2].fr.length ≤ ss.length := by
  obtain ⟨h1, _, h2⟩ := fit_mem h
  unfold fitsB at h2
  simp only [Bool.and_eq_true, leI_t] at h2
  omega

theorem rewrite_impl (rs : List Rul) (e : Int) (ss : List Pr) (hl : ss.length ≤ Go.maxLen) (hr : rs.length ≤ Go.maxLen) (hB : ∀ r ∈ rs, r.to.length + ss.length ≤ 2097152) : HSpec env.P 21 [.sl (rs.map Rul.lv), typLV e ss] [] (rwHS rs e ss) [.arr 96 2 ((rwL rs e ss).map Pr.lv)] := by
  refine HSpec_of_code (E := env.x [75] 0) env_ok.x (fn := Try.f21) Try.func21 rfl Try.call21 _ _ _ _ ?_
  ((repeat ((conv => whnf); first | refine brT ?_ | refine brF ?_)); conv => whnf)
  refine ⟨_, areRules_impl rs, ?_⟩
  ((repeat ((conv => whnf); first | refine brT ?_ | refine brF ?_)); conv => whnf)
  (refine ⟨fun h => ?_, fun h => ?_⟩ <;> rw [h])
  · have hn : rwP rs e ss = none := rwP_f (by rw [notB_t] at h; rw [h]; rfl)
    rw [rwHS_no hn, rwL_no hn]
    ((repeat ((conv => whnf); first | refine brT ?_ | refine brF ?_)); conv => whnf)
    exact ⟨[typHS 0 0 0, .int .i64 0, .int .i64 0, .bool false], rfl, rfl, .nl [.tmp 0 [1] false 96 2] [.old 2] ⟨⟨rfl, rfl, rfl, rfl, rfl, rfl, rfl, rfl, trivial⟩, ⟨rfl, rfl, trivial⟩, rfl⟩⟩
  rw [notB_f] at h
  ((repeat ((conv => whnf); first | refine brT ?_ | refine brF ?_)); conv => whnf)
  refine ⟨_, isType_impl e ss, ?_⟩
  ((repeat ((conv => whnf); first | refine brT ?_ | refine brF ?_)); conv => whnf)
  (refine ⟨fun h1 => ?_, fun h1 => ?_⟩ <;> rw [h1])
  · have hn : rwP rs e ss = none := rwP_f (by rw [notB_t] at h1; rw [h1]; simp)
    rw [rwHS_no hn, rwL_no hn]
    ((repeat ((conv => whnf); first | refine brT ?_ | refine brF ?_)); conv => whnf)
    exact ⟨[typHS 0 0 0, .int .i64 0, .int .i64 0, .bool false], rfl, rfl, .nl [.tmp 0 [1] false 96 2] [.old 2] ⟨⟨rfl, rfl, rfl, rfl, rfl, rfl, rfl, rfl, trivial⟩, ⟨rfl, rfl, trivial⟩, rfl⟩⟩
  rw [notB_f] at h1
  have hego : egoR e ss = egoT e ss := by unfold egoR; rw [h1]
  have hp := rwP_t h h1
  ((repeat ((conv => whnf); first | refine brT ?_ | refine brF ?_)); conv => whnf)
  refine ⟨_, withSex_spec e ss, ?_⟩
  rw [hego]
  ((repeat ((conv => whnf); first | refine brT ?_ | refine brF ?_)); conv => whnf)
  have hF := firstFit_f rs (egoT e ss) ss hl hr
  cases hL : fitL rs (egoT e ss) ss with
  | nil =>
    rw [hL] at hF hp
    rw [rwHS_no hp, rwL_no hp]
    refine ⟨_, hF, ?_⟩
    ((repeat ((conv => whnf); first | refine brT ?_ | refine brF ?_)); conv => whnf)
    rw [show notB false = true by simp [notB]]
    ((repeat ((conv => whnf); first | refine brT ?_ | refine brF ?_)); conv => whnf)
    exact ⟨[typHS 0 0 0, .int .i64 0, .int .i64 0, .bool false], rfl, rfl, .nl [.tmp 0 [1] false 96 2] [.old 2] ⟨⟨rfl, rfl, rfl, rfl, rfl, rfl, rfl, rfl, trivial⟩, ⟨rfl, rfl, trivial⟩, rfl⟩⟩
  | cons p tl =>
    have hm : p ∈ fitL rs (egoT e ss) ss := by rw [hL]; simp
    obtain ⟨hi, hk, -⟩ := fit_mem hm
    have hle := fit_le hm hk
    have hBk := hB rs[p.2] (List.getElem_mem hk)
    rw [hL] at hF hp
    rw [rwHS_yes hp hk, rwL_yes hp hk]
    refine ⟨_, hF, ?_⟩
    ((repeat ((conv => whnf); first | refine brT ?_ | refine brF ?_)); conv => whnf)
    rw [show notB true = false by simp [notB]]
    ((repeat ((conv => whnf); first | refine brT ?_ | refine brF ?_)); conv => whnf)
    refine ⟨false, 0, 0, 4, [7, 8, 0, 1, 2, 3, 4, 5], (.one 6 (.one 9 (.one 10 (.one 11 (.one 12 .done))))), by kernel_rfl, by kernel_rfl, ?_⟩
    ((repeat ((conv => whnf); first | refine brT ?_ | refine brF ?_)); conv => whnf)
    refine ⟨p.2, rs[p.2].lv, rfl, by simp [hk], rfl, ?_⟩
    ((repeat ((conv => whnf); first | refine brT ?_ | refine brF ?_)); conv => whnf)
    apply Exists.intro
    apply Exists.intro
    refine And.intro ?_ ?_
    · refine ⟨_, _, _, _, replaced_h rs[p.2] (egoT e ss) ss p.1 hle hl (repl_len hBk), rfl, rfl, rfl, trivial, ?_⟩
      ((repeat ((conv => whnf); first | refine brT ?_ | refine brF ?_)); conv => whnf)
      refine Weak.idn ?_ ?_ rfl
      · ((repeat ((conv => whnf); refine ⟨rfl, ?_⟩)); trivial)
      · exact ⟨rfl, rfl, rfl, trivial⟩
    ((repeat ((conv => whnf); first | refine brT ?_ | refine brF ?_)); conv => whnf)
    exact ⟨[typHS (egoT e ss) 0 ((replS rs[p.2] ss p.1).map Pr.lv).length, .int .i64 (p.2 : Int), .int .i64 (p.1 : Int), .bool true], rfl, rfl, .inr ⟨[.old 2], ⟨rfl, rfl, rfl, rfl, rfl, rfl, rfl, rfl, trivial⟩, ⟨rfl, rfl, trivial⟩, rfl⟩⟩
theorem rewrite_impl_f (rs : List Rul) (e : Int) (ss : List Pr) (hl : ss.length ≤ Go.maxLen) (hr : rs.length ≤ Go.maxLen) (hB : ∀ r ∈ rs, r.to.length + ss.length ≤ 2097152) : FSpec env.P 21 [.sl (rs.map Rul.lv), typLV e ss] (rwLV rs e ss) := by
  have h := rewrite_impl rs e ss hl hr hB
  unfold rwHS typHS at h
  unfold rwLV
  exact FSpec_of_HSpecT h (by simp [exsW, exW])
end Go.Proofs.Ytomjdjceflbifaa

namespace Go.Proofs.Ytomjdjceflbifaa
open Go.Lg
set_option maxHeartbeats 3200000
set_option maxRecDepth 10000
set_option linter.unusedVariables false
set_option linter.unusedSimpArgs false

def stG (rs : List Rul) (ss : List Pr) : List (Nat × Nat) → List Pr
  | [] => []
  | p :: _ => match rs[p.2]? with | some r => replS r ss p.1 | none => []
def stF (rs : List Rul) (g : Int) (ss : List Pr) : List (Nat × Nat) → LV
  | [] => .tup [typHS 0 0 0, .int .i64 0, .int .i64 0, .bool false]
  | p :: l => .tup [typHS g 0 ((stG rs ss (p :: l)).map Pr.lv).length, .int .i64 (p.2 : Int), .int .i64 (p.1 : Int), .bool true]
theorem stG_at {rs : List Rul} {ss : List Pr} {p : Nat × Nat} {l : List (Nat × Nat)} (hk : p.2 < rs.length) : stG rs ss (p :: l) = replS rs[p.2] ss p.1 := by simp [stG, hk]

theorem stF_at {rs : List Rul} {g : Int} {ss : List Pr} {p : Nat × Nat} {l : List (Nat × Nat)} (hk : p.2 < rs.length) : stF rs g ss (p :: l) = .tup [typHS g 0 ((replS rs[p.2] ss p.1).map Pr.lv).length, .int .i64 (p.2 : Int), .int .i64 (p.1 : Int), .bool true] := by
  show LV.tup [typHS g 0 ((stG rs ss (p :: l)).map Pr.lv).length, .int .i64 (p.2 : Int), .int .i64 (p.1 : Int), .bool true] = _
  rw [stG_at hk]
theorem l4Step_h (rs : List Rul) (e : Int) (ss : List Pr) (hl : ss.length ≤ Go.maxLen) (hr : rs.length ≤ Go.maxLen) (hB : ∀ r ∈ rs, r.to.length + ss.length ≤ 2097152) (R : LV) (L : List Pr) (hR : stF rs (egoT e ss) ss (fitL rs (egoT e ss) ss) = R) (hG : stG rs ss (fitL rs (egoT e ss) ss) = L) :
    HSpec env.P 69 [.sl (rs.map Rul.lv), typLV e ss] [] R [.arr 96 2 (L.map Pr.lv)] := by
  refine HSpec_of_code (E := env.x [125] 0) env_ok.x (fn := Try.f69) Try.func69 rfl Try.call69 _ _ _ _ ?_
  have hl' := hl
  have hr' := hr
  unfold Go.maxLen at hl hr
  ((repeat ((conv => whnf); first | refine brT ?_ | refine brF ?_)); conv => whnf)
  intro _
  rw [show (List.map Pr.lv ss).length = ss.length from List.length_map ..]
  ((repeat ((conv => whnf); first | refine brT ?_ | refine brF ?_)); conv => whnf)
  refine loop_rule (α := Nat) (fun i => [(14, .int .i64 (i : Int))]) (fun _ => [.box (typLV e ss), .box (.st [.int .i64 0, .nil])]) (fun i => ss.length - i) (fun i => i ≤ ss.length ∧ fitTo rs (egoT e ss) ss i = []) 0 ⟨Nat.zero_le _, rfl⟩ ?_ ?_
  · refine ⟨?_, ⟨rfl, rfl, trivial⟩, rfl, rfl⟩
    ((repeat ((conv => whnf); refine ⟨rfl, ?_⟩)); trivial)
  rintro i ⟨hi, hz⟩
  ((repeat ((conv => whnf); first | refine brT ?_ | refine brF ?_)); conv => whnf)
  (refine ⟨fun h1 => ?_, fun h1 => ?_⟩ <;> rw [h1])
  · have hlt : i < ss.length := by rw [ltI_t] at h1; omega
    ((repeat ((conv => whnf); first | refine brT ?_ | refine brF ?_)); conv => whnf)
    intro _
    rw [show (List.map Rul.lv rs).length = rs.length from List.length_map ..]
    ((repeat ((conv => whnf); first | refine brT ?_ | refine brF ?_)); conv => whnf)
    refine loop_rule (α := Nat) (fun k => [(19, .int .i64 (k : Int))]) (fun _ => [.box (typLV e ss), .box (.st [.int .i64 0, .nil])]) (fun k => rs.length - k) (fun k => k ≤ rs.length ∧ fitRow rs (egoT e ss) ss i k = []) 0 ⟨Nat.zero_le _, rfl⟩ ?_ ?_
    · refine ⟨?_, ⟨rfl, rfl, trivial⟩, rfl, rfl⟩
      ((repeat ((conv => whnf); refine ⟨rfl, ?_⟩)); trivial)
    rintro k ⟨hk, hy⟩
    generalize hKK : kk _ = KK
    ((repeat ((conv => whnf); first | refine brT ?_ | refine brF ?_)); conv => whnf)
    (refine ⟨fun h2 => ?_, fun h2 => ?_⟩ <;> rw [h2])
    · have hkt : k < rs.length := by rw [ltI_t] at h2; omega
      have hat : fitAt rs (egoT e ss) ss i k = fitsB rs[k] (egoT e ss) ss (i : Int) := by simp [fitAt, hkt]
      have hg : (rs.map Rul.lv)[k]? = some rs[k].lv := by simp [hkt]
      have hBk := hB rs[k] (List.getElem_mem hkt)
      have hGk : ∀ post, stG rs ss ((i, k) :: post) = replS rs[k] ss i := fun post => stG_at (p := (i, k)) hkt
      have hRk : ∀ post, stF rs (egoT e ss) ss ((i, k) :: post) = .tup [typHS (egoT e ss) 0 ((replS rs[k] ss i).map Pr.lv).length, .int .i64 (k : Int), .int .i64 (i : Int), .bool true] := fun post => stF_at (p := (i, k)) hkt
      have hlk : (i, k) ∈ fitL rs (egoT e ss) ss → i + rs[k].fr.length ≤ ss.length := fun hm => fit_le hm hkt
      generalize rs[k] = r at hat hg hBk hGk hRk hlk
      ((repeat ((conv => whnf); first | refine brT ?_ | refine brF ?_)); conv => whnf)
      refine ⟨k, r.lv, rfl, hg, rfl, ?_⟩
      ((repeat ((conv => whnf); first | refine brT ?_ | refine brF ?_)); conv => whnf)
      refine ⟨_, l4Fits_spec r e ss (i : Int), ?_⟩
      rw [← hat]
      ((repeat ((conv => whnf); first | refine brT ?_ | refine brF ?_)); conv => whnf)
      (refine ⟨fun h3 => ?_, fun h3 => ?_⟩ <;> rw [h3])
      · obtain ⟨post, hp⟩ := fit_at hlt hkt h3
        rw [hz, hy] at hp
        have hp2 : fitL rs (egoT e ss) ss = (i, k) :: post := by rw [hp]; rfl
        have hle := hlk (by rw [hp2]; simp)
        rw [hp2] at hR hG
        rw [hGk] at hG
        rw [hRk] at hR
        subst hR
        subst hG
        ((repeat ((conv => whnf); first | refine brT ?_ | refine brF ?_)); conv => whnf)
        refine ⟨[], _, _, _, _, l4Replace_h r e ss i hle hl' (repl_len hBk), rfl, rfl, rfl, trivial, ?_⟩
        ((repeat ((conv => whnf); first | refine brT ?_ | refine brF ?_)); conv => whnf)
        subst hKK
        ((repeat ((conv => whnf); first | refine brT ?_ | refine brF ?_)); conv => whnf)
        exact ⟨[typHS (egoT e ss) 0 ((replS r ss i).map Pr.lv).length, .int .i64 (k : Int), .int .i64 (i : Int), .bool true], rfl, rfl, .inr ⟨[.old 3], ⟨rfl, rfl, rfl, rfl, rfl, rfl, rfl, rfl, trivial⟩, ⟨rfl, rfl, trivial⟩, rfl⟩⟩
      · ((repeat ((conv => whnf); first | refine brT ?_ | refine brF ?_)); conv => whnf)
        subst hKK
        ((repeat ((conv => whnf); first | refine brT ?_ | refine brF ?_)); conv => whnf)
        have e1 := step_i hkt hr'
        refine round_end (k + 1) ⟨hkt, by rw [fitRow_f h3]; exact hy⟩ (by omega) ⟨?_, ⟨rfl, rfl, trivial⟩, rfl, rfl⟩
        ((repeat ((conv => whnf); first | refine ⟨e1, ?_⟩ | refine ⟨rfl, ?_⟩)); trivial)
    · have hkn : k = rs.length := by rw [ltI_f] at h2; omega
      subst hkn
      subst hKK
      ((repeat ((conv => whnf); first | refine brT ?_ | refine brF ?_)); conv => whnf)
      have e1 := step_i hlt hl'
      refine round_end (i + 1) ⟨hlt, by rw [fitTo_succ, hz, hy]; rfl⟩ (by omega) ⟨?_, ⟨rfl, rfl, trivial⟩, rfl, rfl⟩
      ((repeat ((conv => whnf); first | refine ⟨e1, ?_⟩ | refine ⟨rfl, ?_⟩)); trivial)
  · have hin : i = ss.length := by rw [ltI_f] at h1; omega
    subst hin
    rw [show fitL rs (egoT e ss) ss = [] from hz] at hR hG
    rw [show stG rs ss [] = [] from rfl] at hG
    rw [show stF rs (egoT e ss) ss [] = .tup [typHS 0 0 0, .int .i64 0, .int .i64 0, .bool false] from rfl] at hR
    subst hR
    subst hG
    ((repeat ((conv => whnf); first | refine brT ?_ | refine brF ?_)); conv => whnf)
    exact ⟨[typHS 0 0 0, .int .i64 0, .int .i64 0, .bool false], rfl, rfl, .nl [.tmp 0 [1] false 96 2] [.old 2] ⟨⟨rfl, rfl, rfl, rfl, rfl, rfl, rfl, rfl, trivial⟩, ⟨rfl, rfl, trivial⟩, rfl⟩⟩

theorem stF_yes {rs : List Rul} {e : Int} {ss : List Pr} (h : rulesB rs = true) (h1 : typB e ss = true) : stF rs (egoT e ss) ss (fitL rs (egoT e ss) ss) = rwHS rs e ss ∧ stG rs ss (fitL rs (egoT e ss) ss) = rwL rs e ss := by
  have hp := rwP_t h h1
  cases hL : fitL rs (egoT e ss) ss with
  | nil =>
    rw [hL] at hp
    exact ⟨(rwHS_no hp).symm, (rwL_no hp).symm⟩
  | cons p tl =>
    obtain ⟨_, hk, -⟩ := fit_mem (show p ∈ fitL rs (egoT e ss) ss by rw [hL]; simp)
    rw [hL] at hp
    refine ⟨?_, by rw [stG_at hk, rwL_yes hp hk]⟩
    rw [rwHS_yes hp hk, stF_at hk]

theorem rewrite_spec (rs : List Rul) (e : Int) (ss : List Pr) (hl : ss.length ≤ Go.maxLen) (hr : rs.length ≤ Go.maxLen) (hB : ∀ r ∈ rs, r.to.length + ss.length ≤ 2097152) : HSpec env.P 18 [.sl (rs.map Rul.lv), typLV e ss] [] (rwHS rs e ss) [.arr 96 2 ((rwL rs e ss).map Pr.lv)] := by
  refine HSpec_of_code (E := env.x [69] 0) env_ok.x (fn := Try.f18) Try.func18 rfl Try.call18 _ _ _ _ ?_
  ((repeat ((conv => whnf); first | refine brT ?_ | refine brF ?_)); conv => whnf)
  refine ⟨_, areRules_spec rs, ?_⟩
  ((repeat ((conv => whnf); first | refine brT ?_ | refine brF ?_)); conv => whnf)
  (refine ⟨fun h => ?_, fun h => ?_⟩ <;> rw [h])
  · have hn : rwP rs e ss = none := rwP_f (by rw [notB_t] at h; rw [h]; rfl)
    rw [rwHS_no hn, rwL_no hn]
    ((repeat ((conv => whnf); first | refine brT ?_ | refine brF ?_)); conv => whnf)
    exact ⟨[typHS 0 0 0, .int .i64 0, .int .i64 0, .bool false], rfl, rfl, .nl [.tmp 0 [1] false 96 2] [.old 2] ⟨⟨rfl, rfl, rfl, rfl, rfl, rfl, rfl, rfl, trivial⟩, ⟨rfl, rfl, trivial⟩, rfl⟩⟩
  rw [notB_f] at h
  ((repeat ((conv => whnf); first | refine brT ?_ | refine brF ?_)); conv => whnf)
  refine ⟨_, isType_spec e ss, ?_⟩
  ((repeat ((conv => whnf); first | refine brT ?_ | refine brF ?_)); conv => whnf)
  (refine ⟨fun h1 => ?_, fun h1 => ?_⟩ <;> rw [h1])
  · have hn : rwP rs e ss = none := rwP_f (by rw [notB_t] at h1; rw [h1]; simp)
    rw [rwHS_no hn, rwL_no hn]
    ((repeat ((conv => whnf); first | refine brT ?_ | refine brF ?_)); conv => whnf)
    exact ⟨[typHS 0 0 0, .int .i64 0, .int .i64 0, .bool false], rfl, rfl, .nl [.tmp 0 [1] false 96 2] [.old 2] ⟨⟨rfl, rfl, rfl, rfl, rfl, rfl, rfl, rfl, trivial⟩, ⟨rfl, rfl, trivial⟩, rfl⟩⟩
  rw [notB_f] at h1
  have hS := l4Step_h rs e ss hl hr hB _ _ (stF_yes h h1).1 (stF_yes h h1).2
  unfold rwHS typHS at hS
  unfold rwHS typHS
  generalize rwE rs e ss = E1 at hS ⊢
  generalize rwL rs e ss = L1 at hS ⊢
  generalize rwK rs e ss = K1 at hS ⊢
  generalize rwI rs e ss = I1 at hS ⊢
  generalize rwB rs e ss = bb at hS ⊢
  ((repeat ((conv => whnf); first | refine brT ?_ | refine brF ?_)); conv => whnf)
  refine ⟨[], _, _, _, _, hS, rfl, rfl, rfl, trivial, ?_⟩
  ((repeat ((conv => whnf); first | refine brT ?_ | refine brF ?_)); conv => whnf)
  exact ⟨[typHS E1 0 (L1.map Pr.lv).length, .int .i64 K1, .int .i64 I1, .bool bb], rfl, rfl, .inr ⟨[.old 2], ⟨rfl, rfl, rfl, rfl, rfl, rfl, rfl, rfl, trivial⟩, ⟨rfl, rfl, trivial⟩, rfl⟩⟩
theorem rewrite_spec_f (rs : List Rul) (e : Int) (ss : List Pr) (hl : ss.length ≤ Go.maxLen) (hr : rs.length ≤ Go.maxLen) (hB : ∀ r ∈ rs, r.to.length + ss.length ≤ 2097152) : FSpec env.P 18 [.sl (rs.map Rul.lv), typLV e ss] (rwLV rs e ss) := by
  have h := rewrite_spec rs e ss hl hr hB
  unfold rwHS typHS at h
  unfold rwLV
  exact FSpec_of_HSpecT h (by simp [exsW, exW])
end Go.Proofs.Ytomjdjceflbifaa

namespace Go.Proofs.Ytomjdjceflbifaa
open Go.Lg
set_option maxHeartbeats 6400000
set_option maxRecDepth 10000
set_option linter.unusedVariables false
set_option linter.unusedSimpArgs false

theorem dms_rulO (rs : List Rul) : dms (rs.map rulO) = rs.map Rul.lv := by
  rw [dms_map, List.map_map]
  refine List.map_congr_left fun r _ => ?_
  simp [rulO, Rul.own, Rul.lv, dm, dms]
theorem szRu_le : ∀ {rs : List Rul} {l : Int}, (∀ r ∈ rs, r.OK) → 0 ≤ l → l ≤ 1048576 → ltI (szRu l rs) 0 = false → szRu l rs ≤ l
  | [], l, _, _, _, _ => by simp [szRu]
  | r :: rs, l, hr, h0, h1, h => by
    simp only [szRu] at h ⊢
    cases h2 : ltI (szR l r) 0 <;> rw [h2] at h <;> simp only at h ⊢
    · obtain ⟨k1, k2, k3⟩ := szR_B (hr r (by simp)) h0 h1 h2
      have := szRu_le (fun x hx => hr x (by simp [hx])) k2 (by omega) h
      omega
    · rw [ltI_f] at h; omega
theorem szRuS_le {rs : List Rul} {l : Int} (hl : rs.length ≤ Go.maxLen) (hr : ∀ r ∈ rs, r.OK) (h0 : 0 ≤ l) (h1 : l ≤ 1048576) (h : ltI (szRuS l rs) 0 = false) : 0 ≤ szRuS l rs ∧ szRuS l rs ≤ l := by
  unfold Go.maxLen at hl
  have hw : IntKind.i64.wrap (l - (rs.length : Int)) = l - rs.length := wrap64 (by omega) (by omega)
  refine ⟨by rw [ltI_f] at h; omega, ?_⟩
  unfold szRuS at h ⊢
  rw [hw] at h ⊢
  cases h2 : ltI (l - (rs.length : Int)) 0 <;> rw [h2] at h <;> simp only at h ⊢
  · rw [ltI_f] at h2
    have := szRu_le hr h2 (by omega) h
    omega
  · rw [ltI_f] at h; omega
theorem totR_le : ∀ {rs : List Rul} {l : Nat}, rs.length ≤ l → (∀ r ∈ rs, r.B) → totR rs ≤ l * 8388608
  | [], l, _, _ => by simp [totR]
  | r :: rs, 0, h, _ => by simp at h
  | r :: rs, l + 1, h, hB => by
    have := totR_le (rs := rs) (l := l) (by simpa using h) (fun x hx => hB x (by simp [hx]))
    obtain ⟨_, _, b3, b4⟩ := hB r (by simp)
    have e : totR (r :: rs) = costR r + totR rs := by simp [totR]
    rw [e]; unfold costR; omega

theorem law_rewriteStep (rs : List Rul) (e : Int) (ss : List Pr) (hr : rs.length ≤ Go.maxLen ∧ ∀ r ∈ rs, r.OK) (hl : ss.length ≤ Go.maxLen) : FSpec env.P 3 [.sl (rs.map Rul.lv), typLV e ss] (.bool true) := by
  refine FSpec_of_code (E := env.x [19, 20, 21, 24, 25] 0) env_ok.x (fn := Try.f3) Try.func3 rfl Try.call3 _ _ ?_
  ((repeat ((conv => whnf); first | refine brT ?_ | refine brF ?_)); conv => whnf)
  refine ⟨_, szRuleS_spec rs 1048576, ?_⟩
  ((repeat ((conv => whnf); first | refine brT ?_ | refine brF ?_)); conv => whnf)
  (refine ⟨fun h => ?_, fun h => ?_⟩ <;> rw [h])
  · ((repeat ((conv => whnf); first | refine brT ?_ | refine brF ?_)); conv => whnf)
    exact fin rfl
  obtain ⟨hn, hB⟩ := szRuS_B hr.1 hr.2 (by omega) (by omega) h
  obtain ⟨z0, z1⟩ := szRuS_le hr.1 hr.2 (by omega) (by omega) h
  ((repeat ((conv => whnf); first | refine brT ?_ | refine brF ?_)); conv => whnf)
  refine ⟨_, szKinType_spec e ss (szRuS 1048576 rs), ?_⟩
  by_cases h2 : 0 ≤ szT (szRuS 1048576 rs) ss.length
  rotate_left
  · ((repeat ((conv => whnf); first | refine brT ?_ | refine brF ?_)); conv => whnf)
    rw [show ltI (szT (szRuS 1048576 rs) ss.length) 0 = true by rw [ltI_t]; omega]
    ((repeat ((conv => whnf); first | refine brT ?_ | refine brF ?_)); conv => whnf)
    exact fin rfl
  obtain ⟨q1, q2, hf, hb, -⟩ := szT_ok z0 z1 hl h2
  have hBB : ∀ r ∈ rs, r.to.length + ss.length ≤ 2097152 := fun r hr' => by have := (hB r hr').2.2.2; omega
  have htot := totR_le hn hB
  have hS := rewrite_spec_f rs e ss hl hr.1 hBB
  have hI := rewrite_impl rs e ss hl hr.1 hBB
  have hF := rewrite_impl_f rs e ss hl hr.1 hBB
  have hLL : (rwL rs e ss).length ≤ 2097152 := by
    unfold rwL
    split
    · split
      · rename_i r hr'
        have := hBB r (List.mem_of_getElem? hr')
        unfold replS
        rw [List.length_append, List.length_append, List.length_take, List.length_drop]
        omega
      · simp
    · simp
  unfold rwLV at hS hF
  unfold rwHS at hI
  generalize rwE rs e ss = E1 at hS hI hF
  generalize rwL rs e ss = L1 at hS hI hF hLL
  generalize rwK rs e ss = K1 at hS hI hF
  generalize rwI rs e ss = I1 at hS hI hF
  generalize rwB rs e ss = bb at hS hI hF
  have hm : (L1.map Pr.lv).length = ((markPrs 1 L1.length).map Pr.lv).length := by simp [markPrs_len]
  ((repeat ((conv => whnf); first | refine brT ?_ | refine brF ?_)); conv => whnf)
  rw [hf]
  ((repeat ((conv => whnf); first | refine brT ?_ | refine brF ?_)); conv => whnf)
  refine ⟨true, by kernel_rfl, ?_⟩
  ((repeat ((conv => whnf); first | refine brT ?_ | refine brF ?_)); conv => whnf)
  refine ⟨_, toRuleS_f rs hn hB, ?_⟩
  ((repeat ((conv => whnf); first | refine brT ?_ | refine brF ?_)); conv => whnf)
  refine ⟨_, toKinType_f e ss hb, ?_⟩
  ((repeat ((conv => whnf); first | refine brT ?_ | refine brF ?_)); conv => whnf)
  refine ⟨_, hS, ?_⟩
  ((repeat ((conv => whnf); first | refine brT ?_ | refine brF ?_)); conv => whnf)
  refine ⟨[], _, _, _, _, toRuleS_t rs hn hB, rfl, rfl, rfl, trivial, ?_⟩
  ((repeat ((conv => whnf); first | refine brT ?_ | refine brF ?_)); conv => whnf)
  refine ⟨[], _, _, _, _, toKinType_h e ss hb, rfl, rfl, rfl, trivial, ?_⟩
  ((repeat ((conv => whnf); first | refine brT ?_ | refine brF ?_)); conv => whnf)
  refine ⟨[], _, _, _, _, hI, rfl, ?_⟩
  ((repeat ((conv => whnf); first | refine brT ?_ | refine brF ?_)); conv => whnf)
  refine ⟨rfl, _, dms_rulO rs, ?_⟩
  ((repeat ((conv => whnf); first | refine brT ?_ | refine brF ?_)); conv => whnf)
  refine ⟨rfl, ?_⟩
  ((repeat ((conv => whnf); first | refine brT ?_ | refine brF ?_)); conv => whnf)
  refine ⟨rfl, rfl, ⟨rfl, flats_prs _, trivial⟩, ?_⟩
  ((repeat ((conv => whnf); first | refine brT ?_ | refine brF ?_)); conv => whnf)
  refine ⟨rfl, ?_⟩
  ((repeat ((conv => whnf); first | refine brT ?_ | refine brF ?_)); conv => whnf)
  refine ⟨_, eqKinType_spec E1 L1 E1 L1, ?_⟩
  rw [eqTyp_refl]
  ((repeat ((conv => whnf); first | refine brT ?_ | refine brF ?_)); conv => whnf)
  rw [show notB true = false by simp [notB]]
  ((repeat ((conv => whnf); first | refine brT ?_ | refine brF ?_)); conv => whnf)
  rw [eqI_refl, show notB true = false by simp [notB]]
  ((repeat ((conv => whnf); first | refine brT ?_ | refine brF ?_)); conv => whnf)
  rw [eqI_refl, show notB true = false by simp [notB]]
  ((repeat ((conv => whnf); first | refine brT ?_ | refine brF ?_)); conv => whnf)
  rw [eqB_refl, show notB true = false by simp [notB]]
  ((repeat ((conv => whnf); first | refine brT ?_ | refine brF ?_)); conv => whnf)
  refine ⟨[], _, _, _, _, toRuleS_h rs hn hB, rfl, rfl, rfl, trivial, ?_⟩
  ((repeat ((conv => whnf); first | refine brT ?_ | refine brF ?_)); conv => whnf)
  refine ⟨rfl, _, dms_rulO rs, ?_⟩
  ((repeat ((conv => whnf); first | refine brT ?_ | refine brF ?_)); conv => whnf)
  refine ⟨rfl, ?_⟩
  ((repeat ((conv => whnf); first | refine brT ?_ | refine brF ?_)); conv => whnf)
  refine ⟨_, eqRuleS_spec rs rs, ?_⟩
  rw [eqRuls_refl]
  ((repeat ((conv => whnf); first | refine brT ?_ | refine brF ?_)); conv => whnf)
  rw [show notB true = false by simp [notB]]
  ((repeat ((conv => whnf); first | refine brT ?_ | refine brF ?_)); conv => whnf)
  refine ⟨true, by kernel_rfl, ?_⟩
  ((repeat ((conv => whnf); first | refine brT ?_ | refine brF ?_)); conv => whnf)
  refine ⟨_, toKinType_f e ss hb, ?_⟩
  ((repeat ((conv => whnf); first | refine brT ?_ | refine brF ?_)); conv => whnf)
  refine ⟨rfl, ?_⟩
  ((repeat ((conv => whnf); first | refine brT ?_ | refine brF ?_)); conv => whnf)
  refine ⟨_, eqKinType_spec e ss e ss, ?_⟩
  rw [eqTyp_refl]
  ((repeat ((conv => whnf); first | refine brT ?_ | refine brF ?_)); conv => whnf)
  rw [show notB true = false by simp [notB]]
  ((repeat ((conv => whnf); first | refine brT ?_ | refine brF ?_)); conv => whnf)
  refine ⟨[2], _, _, _, _, markRuleS_spec rs _ rfl 1 (by omega), rfl, rfl, rfl, trivial, ?_⟩
  ((repeat ((conv => whnf); first | refine brT ?_ | refine brF ?_)); conv => whnf)
  refine ⟨[3], _, _, _, _, markKinType_spec e ss _ rfl (1 + totR rs) (by omega), rfl, rfl, rfl, trivial, ?_⟩
  ((repeat ((conv => whnf); first | refine brT ?_ | refine brF ?_)); conv => whnf)
  rw [show ltI ((1 + totR rs + 2 * ss.length : Nat) : Int) 0 = false by rw [ltI_f]; omega]
  ((repeat ((conv => whnf); first | refine brT ?_ | refine brF ?_)); conv => whnf)
  refine ⟨rfl, ?_⟩
  ((repeat ((conv => whnf); first | refine brT ?_ | refine brF ?_)); conv => whnf)
  refine ⟨_, eqKinType_spec E1 L1 E1 L1, ?_⟩
  rw [eqTyp_refl]
  ((repeat ((conv => whnf); first | refine brT ?_ | refine brF ?_)); conv => whnf)
  rw [show notB true = false by simp [notB]]
  ((repeat ((conv => whnf); first | refine brT ?_ | refine brF ?_)); conv => whnf)
  rw [eqI_refl, show notB true = false by simp [notB]]
  ((repeat ((conv => whnf); first | refine brT ?_ | refine brF ?_)); conv => whnf)
  rw [eqI_refl, show notB true = false by simp [notB]]
  ((repeat ((conv => whnf); first | refine brT ?_ | refine brF ?_)); conv => whnf)
  rw [eqB_refl, show notB true = false by simp [notB]]
  ((repeat ((conv => whnf); first | refine brT ?_ | refine brF ?_)); conv => whnf)
  refine ⟨[5], _, _, _, _, markKinType_spec E1 L1 _ rfl 1 (by omega), rfl, rfl, rfl, trivial, ?_⟩
  ((repeat ((conv => whnf); first | refine brT ?_ | refine brF ?_)); conv => whnf)
  refine ⟨hm, ?_⟩
  ((repeat ((conv => whnf); first | refine brT ?_ | refine brF ?_)); conv => whnf)
  refine ⟨_, heldKinType_spec E1 1 L1.length (by omega), ?_⟩
  ((repeat ((conv => whnf); first | refine brT ?_ | refine brF ?_)); conv => whnf)
  rw [show ltI ((1 + 2 * L1.length : Nat) : Int) 0 = false by rw [ltI_f]; omega]
  ((repeat ((conv => whnf); first | refine brT ?_ | refine brF ?_)); conv => whnf)
  rw [eqI_refl, show notB true = false by simp [notB]]
  ((repeat ((conv => whnf); first | refine brT ?_ | refine brF ?_)); conv => whnf)
  refine ⟨true, by kernel_rfl, ?_⟩
  ((repeat ((conv => whnf); first | refine brT ?_ | refine brF ?_)); conv => whnf)
  refine ⟨_, toRuleS_f rs hn hB, ?_⟩
  ((repeat ((conv => whnf); first | refine brT ?_ | refine brF ?_)); conv => whnf)
  refine ⟨_, toKinType_f e ss hb, ?_⟩
  ((repeat ((conv => whnf); first | refine brT ?_ | refine brF ?_)); conv => whnf)
  refine ⟨_, hF, ?_⟩
  ((repeat ((conv => whnf); first | refine brT ?_ | refine brF ?_)); conv => whnf)
  refine ⟨_, eqKinType_spec E1 L1 E1 L1, ?_⟩
  rw [eqTyp_refl]
  ((repeat ((conv => whnf); first | refine brT ?_ | refine brF ?_)); conv => whnf)
  rw [show notB true = false by simp [notB]]
  ((repeat ((conv => whnf); first | refine brT ?_ | refine brF ?_)); conv => whnf)
  rw [eqI_refl, show notB true = false by simp [notB]]
  ((repeat ((conv => whnf); first | refine brT ?_ | refine brF ?_)); conv => whnf)
  rw [eqI_refl, show notB true = false by simp [notB]]
  ((repeat ((conv => whnf); first | refine brT ?_ | refine brF ?_)); conv => whnf)
  rw [eqB_refl, show notB true = false by simp [notB]]
  ((repeat ((conv => whnf); first | refine brT ?_ | refine brF ?_)); conv => whnf)
  refine ⟨hm, ?_⟩
  ((repeat ((conv => whnf); first | refine brT ?_ | refine brF ?_)); conv => whnf)
  refine ⟨_, heldKinType_spec E1 1 L1.length (by omega), ?_⟩
  ((repeat ((conv => whnf); first | refine brT ?_ | refine brF ?_)); conv => whnf)
  rw [show ltI ((1 + 2 * L1.length : Nat) : Int) 0 = false by rw [ltI_f]; omega]
  ((repeat ((conv => whnf); first | refine brT ?_ | refine brF ?_)); conv => whnf)
  rw [eqI_refl, show notB true = false by simp [notB]]
  ((repeat ((conv => whnf); first | refine brT ?_ | refine brF ?_)); conv => whnf)
  exact fin rfl
end Go.Proofs.Ytomjdjceflbifaa
