/- Contracts of functions of the program and of its model, told over readings. -/
import Derived.Test.YtfdjeflnjciloaaCPB
import Derived.Test.YtfdjeflnjciloaaCPA
namespace Go.Proofs.Ytfdjeflnjciloaa
open Go.Lg
set_option maxHeartbeats 1600000
set_option maxRecDepth 10000
set_option linter.unusedVariables false
set_option linter.unusedSimpArgs false

theorem prTo_end (rows : List (List Int)) : prTo rows rows.length 0 = prFrom 0 rows := by rw [prTo_zero, List.take_length]

theorem pairsOf_h (n : Int) (rows : List (List Int)) :
    HSpec env.P 47 [relLV n rows] [] (.hs 0 ((pairsL n rows).map Pr.lv).length) [.arr 109 2 ((pairsL n rows).map Pr.lv)] := by
  refine HSpec_of_code (E := env.x [] 0) env_ok.x (fn := Try.f47) Try.func47 rfl Try.call47 _ _ _ _ ?_
  ((repeat ((conv => whnf); first | refine brT ?_ | refine brF ?_)); conv => whnf)
  refine ⟨_, isRelation_impl n rows, ?_⟩
  ((repeat ((conv => whnf); first | refine brT ?_ | refine brF ?_)); conv => whnf)
  (refine ⟨fun h => ?_, fun h => ?_⟩ <;> rw [h])
  · rw [notB_t] at h
    have e : pairsL n rows = [] := by unfold pairsL; rw [h]
    rw [e]
    ((repeat ((conv => whnf); first | refine brT ?_ | refine brF ?_)); conv => whnf)
    exact ⟨[.hs 0 0], rfl, rfl, .inr ⟨[.nil 109 2], ⟨rfl, rfl, trivial⟩, ⟨rfl, rfl, trivial⟩, rfl⟩⟩
  rw [notB_f] at h
  have e : pairsL n rows = prFrom 0 rows := by unfold pairsL; rw [h]
  have hr := relIn_of h
  have ht := hr.tot
  rw [e]
  ((repeat ((conv => whnf); first | refine brT ?_ | refine brF ?_)); conv => whnf)
  intro hm
  have hm' : rows.length ≤ Go.maxLen := by simpa using hm
  ((repeat ((conv => whnf); first | refine brT ?_ | refine brF ?_)); conv => whnf)
  refine loop_ruleR (α := Nat) [.old 0, .nil 109 2] (fun k => [(14, .int .i64 (k : Int)), (3, .hs 1 ((prTo rows k 0).map Pr.lv).length)]) (fun k => [.box (relLV n rows), .arr 109 2 ((prTo rows k 0).map Pr.lv)]) (fun k => rows.length - k) (fun k => k ≤ rows.length) 0 (Nat.zero_le _) ?_ ?_
  · refine ⟨?_, ⟨rfl, rfl, rfl, rfl, trivial⟩, rfl⟩
    ((repeat ((conv => whnf); refine ⟨rfl, rfl, ?_⟩)); trivial)
  intro k hk
  ((repeat ((conv => whnf); first | refine brT ?_ | refine brF ?_)); conv => whnf)
  (refine ⟨fun h1 => ?_, fun h1 => ?_⟩ <;> rw [h1])
  · have hlt : k < rows.length := by rw [ltI_t] at h1; simp at h1; omega
    have e1 := step_i hlt hm'
    ((repeat ((conv => whnf); first | refine brT ?_ | refine brF ?_)); conv => whnf)
    refine ⟨k, rowSl rows[k], rfl, by simp [hlt], rfl, ?_⟩
    ((repeat ((conv => whnf); first | refine brT ?_ | refine brF ?_)); conv => whnf)
    intro hmr
    have hmr' : rows[k].length ≤ Go.maxLen := by simpa using hmr
    ((repeat ((conv => whnf); first | refine brT ?_ | refine brF ?_)); conv => whnf)
    refine loop_ruleR (α := Nat) [.old 0, .old 1] (fun i => [(21, .int .i64 (i : Int)), (3, .hs 1 ((prTo rows k i).map Pr.lv).length)]) (fun i => [.box (relLV n rows), .arr 109 2 ((prTo rows k i).map Pr.lv)]) (fun i => rows[k].length - i) (fun i => i ≤ rows[k].length) 0 (Nat.zero_le _) ?_ ?_
    · refine ⟨?_, ⟨rfl, rfl, rfl, rfl, trivial⟩, rfl⟩
      ((repeat ((conv => whnf); refine ⟨rfl, rfl, ?_⟩)); trivial)
    intro i hi
    generalize hKK : kk _ = KK
    ((repeat ((conv => whnf); first | refine brT ?_ | refine brF ?_)); conv => whnf)
    (refine ⟨fun h2 => ?_, fun h2 => ?_⟩ <;> rw [h2])
    · have hil : i < rows[k].length := by rw [ltI_t] at h2; simp at h2; omega
      have e2 := step_i hil hmr'
      have hsu := prTo_succ hlt hil
      have hle := prTo_len hlt (i := i + 1) hil
      have e4 : ((prTo rows k i).map Pr.lv ++ [LV.st [LV.int .i64 (k : Int), LV.int .i64 rows[k][i]]]) = (prTo rows k (i + 1)).map Pr.lv := by rw [hsu, List.map_append]; rfl
      have e3 : LV.hs 1 ((prTo rows k i).map Pr.lv ++ [LV.st [LV.int .i64 (k : Int), LV.int .i64 rows[k][i]]]).length = LV.hs 1 ((prTo rows k (i + 1)).map Pr.lv).length := by rw [e4]
      ((repeat ((conv => whnf); first | refine brT ?_ | refine brF ?_)); conv => whnf)
      refine ⟨i, intLV rows[k][i], rfl, by simp [hil], rfl, ?_⟩
      ((repeat ((conv => whnf); first | refine brT ?_ | refine brF ?_)); conv => whnf)
      refine ⟨rfl, rfl, by rw [e4]; unfold Go.maxLen; simp; omega, by rw [e4]; simp; omega, ?_⟩
      ((repeat ((conv => whnf); first | refine brT ?_ | refine brF ?_)); conv => whnf)
      refine round_endR [.old 0, .old 3] (i + 1) hil (by omega) ⟨?_, ⟨rfl, rfl, rfl, congrArg (Blk.arr 109 2) e4, trivial⟩, rfl⟩
      repeat ((conv => whnf); first | refine ⟨rfl, e2, ?_⟩ | refine ⟨rfl, e3, ?_⟩ | refine ⟨rfl, rfl, ?_⟩)
      trivial
    · have hil : i = rows[k].length := by rw [ltI_f] at h2; simp at h2; omega
      have e4 : prTo rows k i = prTo rows (k + 1) 0 := by rw [hil, prTo_row hlt]
      have e3 : LV.hs 1 ((prTo rows k i).map Pr.lv).length = LV.hs 1 ((prTo rows (k + 1) 0).map Pr.lv).length := by rw [e4]
      subst hKK
      ((repeat ((conv => whnf); first | refine brT ?_ | refine brF ?_)); conv => whnf)
      refine round_endR [.old 0, .old 1] (k + 1) hlt (by omega) ⟨?_, ⟨rfl, rfl, rfl, congrArg (Blk.arr 109 2) (by rw [e4]), trivial⟩, rfl⟩
      repeat ((conv => whnf); first | refine ⟨rfl, e1, ?_⟩ | refine ⟨rfl, e3, ?_⟩ | refine ⟨rfl, rfl, ?_⟩)
      trivial
  · have h3 : k = rows.length := by rw [ltI_f] at h1; simp at h1; omega
    subst h3
    ((repeat ((conv => whnf); first | refine brT ?_ | refine brF ?_)); conv => whnf)
    refine ⟨[.hs 0 ((prTo rows rows.length 0).map Pr.lv).length], by rw [prTo_end]; rfl, rfl, .inr ⟨[.old 1], ⟨rfl, rfl, trivial⟩, ⟨rfl, congrArg (Blk.arr 109 2) (by rw [prTo_end]), trivial⟩, rfl⟩⟩
end Go.Proofs.Ytfdjeflnjciloaa

namespace Go.Proofs.Ytfdjeflnjciloaa
open Go.Lg
set_option maxHeartbeats 1600000
set_option maxRecDepth 10000
set_option linter.unusedVariables false
set_option linter.unusedSimpArgs false

theorem specPairs_h (n : Int) (rows : List (List Int)) :
    HSpec env.P 83 [relLV n rows] [] (.hs 0 ((pairsL n rows).map Pr.lv).length) [.arr 109 2 ((pairsL n rows).map Pr.lv)] := by
  refine HSpec_of_code (E := env.x [] 0) env_ok.x (fn := Try.f83) Try.func83 rfl Try.call83 _ _ _ _ ?_
  ((repeat ((conv => whnf); first | refine brT ?_ | refine brF ?_)); conv => whnf)
  refine ⟨_, isRelation_spec n rows, ?_⟩
  ((repeat ((conv => whnf); first | refine brT ?_ | refine brF ?_)); conv => whnf)
  (refine ⟨fun h => ?_, fun h => ?_⟩ <;> rw [h])
  · rw [notB_t] at h
    have e : pairsL n rows = [] := by unfold pairsL; rw [h]
    rw [e]
    ((repeat ((conv => whnf); first | refine brT ?_ | refine brF ?_)); conv => whnf)
    exact ⟨[.hs 0 0], rfl, rfl, .inr ⟨[.nil 109 2], ⟨rfl, rfl, trivial⟩, ⟨rfl, rfl, trivial⟩, rfl⟩⟩
  rw [notB_f] at h
  have e : pairsL n rows = prFrom 0 rows := by unfold pairsL; rw [h]
  have hr := relIn_of h
  have ht := hr.tot
  rw [e]
  ((repeat ((conv => whnf); first | refine brT ?_ | refine brF ?_)); conv => whnf)
  intro hm
  have hm' : rows.length ≤ Go.maxLen := by simpa using hm
  ((repeat ((conv => whnf); first | refine brT ?_ | refine brF ?_)); conv => whnf)
  refine loop_ruleR (α := Nat) [.old 0, .old 1] (fun k => [(11, .undef), (15, .int .i64 (k : Int)), (3, .hs 1 ((prTo rows k 0).map Pr.lv).length)]) (fun k => [.box (relLV n rows), .arr 109 2 ((prTo rows k 0).map Pr.lv)]) (fun k => rows.length - k) (fun k => k ≤ rows.length) 0 (Nat.zero_le _) ?_ ?_
  · refine ⟨?_, ⟨rfl, rfl, rfl, rfl, trivial⟩, rfl⟩
    ((repeat ((conv => whnf); refine ⟨rfl, rfl, ?_⟩)); trivial)
  intro k hk
  ((repeat ((conv => whnf); first | refine brT ?_ | refine brF ?_)); conv => whnf)
  (refine ⟨fun h1 => ?_, fun h1 => ?_⟩ <;> rw [h1])
  · have hlt : k < rows.length := by rw [ltI_t] at h1; simp at h1; omega
    have e1 := step_i hlt hm'
    ((repeat ((conv => whnf); first | refine brT ?_ | refine brF ?_)); conv => whnf)
    refine ⟨k, rowSl rows[k], rfl, by simp [hlt], rfl, ?_⟩
    ((repeat ((conv => whnf); first | refine brT ?_ | refine brF ?_)); conv => whnf)
    intro hmr
    have hmr' : rows[k].length ≤ Go.maxLen := by simpa using hmr
    ((repeat ((conv => whnf); first | refine brT ?_ | refine brF ?_)); conv => whnf)
    refine loop_ruleR (α := Nat) [.old 0, .old 1] (fun i => [(22, .int .i64 (i : Int)), (3, .hs 1 ((prTo rows k i).map Pr.lv).length)]) (fun i => [.box (relLV n rows), .arr 109 2 ((prTo rows k i).map Pr.lv)]) (fun i => rows[k].length - i) (fun i => i ≤ rows[k].length) 0 (Nat.zero_le _) ?_ ?_
    · refine ⟨?_, ⟨rfl, rfl, rfl, rfl, trivial⟩, rfl⟩
      ((repeat ((conv => whnf); refine ⟨rfl, rfl, ?_⟩)); trivial)
    intro i hi
    generalize hKK : kk _ = KK
    ((repeat ((conv => whnf); first | refine brT ?_ | refine brF ?_)); conv => whnf)
    (refine ⟨fun h2 => ?_, fun h2 => ?_⟩ <;> rw [h2])
    · have hil : i < rows[k].length := by rw [ltI_t] at h2; simp at h2; omega
      have e2 := step_i hil hmr'
      have hsu := prTo_succ hlt hil
      have hle := prTo_len hlt (i := i + 1) hil
      have e4 : ((prTo rows k i).map Pr.lv ++ [LV.st [LV.int .i64 (k : Int), LV.int .i64 rows[k][i]]]) = (prTo rows k (i + 1)).map Pr.lv := by rw [hsu, List.map_append]; rfl
      have e3 : LV.hs 1 ((prTo rows k i).map Pr.lv ++ [LV.st [LV.int .i64 (k : Int), LV.int .i64 rows[k][i]]]).length = LV.hs 1 ((prTo rows k (i + 1)).map Pr.lv).length := by rw [e4]
      ((repeat ((conv => whnf); first | refine brT ?_ | refine brF ?_)); conv => whnf)
      refine ⟨i, intLV rows[k][i], rfl, by simp [hil], rfl, ?_⟩
      ((repeat ((conv => whnf); first | refine brT ?_ | refine brF ?_)); conv => whnf)
      refine ⟨rfl, rfl, by rw [e4]; unfold Go.maxLen; simp; omega, by rw [e4]; simp; omega, ?_⟩
      ((repeat ((conv => whnf); first | refine brT ?_ | refine brF ?_)); conv => whnf)
      refine round_endR [.old 0, .old 3] (i + 1) hil (by omega) ⟨?_, ⟨rfl, rfl, rfl, congrArg (Blk.arr 109 2) e4, trivial⟩, rfl⟩
      repeat ((conv => whnf); first | refine ⟨rfl, e2, ?_⟩ | refine ⟨rfl, e3, ?_⟩ | refine ⟨rfl, rfl, ?_⟩)
      trivial
    · have hil : i = rows[k].length := by rw [ltI_f] at h2; simp at h2; omega
      have e4 : prTo rows k i = prTo rows (k + 1) 0 := by rw [hil, prTo_row hlt]
      have e3 : LV.hs 1 ((prTo rows k i).map Pr.lv).length = LV.hs 1 ((prTo rows (k + 1) 0).map Pr.lv).length := by rw [e4]
      subst hKK
      ((repeat ((conv => whnf); first | refine brT ?_ | refine brF ?_)); conv => whnf)
      refine round_endR [.old 0, .old 1] (k + 1) hlt (by omega) ⟨?_, ⟨rfl, rfl, rfl, congrArg (Blk.arr 109 2) (by rw [e4]), trivial⟩, rfl⟩
      repeat ((conv => whnf); first | refine ⟨rfl, e1, ?_⟩ | refine ⟨rfl, e3, ?_⟩ | refine ⟨rfl, rfl, ?_⟩)
      trivial
  · have h3 : k = rows.length := by rw [ltI_f] at h1; simp at h1; omega
    subst h3
    ((repeat ((conv => whnf); first | refine brT ?_ | refine brF ?_)); conv => whnf)
    refine ⟨[.hs 0 ((prTo rows rows.length 0).map Pr.lv).length], by rw [prTo_end]; rfl, rfl, .inr ⟨[.old 1], ⟨rfl, rfl, trivial⟩, ⟨rfl, congrArg (Blk.arr 109 2) (by rw [prTo_end]), trivial⟩, rfl⟩⟩
end Go.Proofs.Ytfdjeflnjciloaa

namespace Go.Proofs.Ytfdjeflnjciloaa
open Go.Lg
set_option maxHeartbeats 1600000
set_option maxRecDepth 10000
set_option linter.unusedVariables false
set_option linter.unusedSimpArgs false

/-! A row whose element i is written field by field. -/
section
variable {L : List LV} {i : Nat}
theorem fw_get (h : i < L.length) (fs : List LV) : getP (.st (L.set i (.st fs))) [i] = some (.st fs) := by simp [getP, h]
theorem fw_get2 (h : i < L.length) {fs : List LV} {f : Nat} {x : LV} (hx : fs[f]? = some x) : getP (.st (L.set i (.st fs))) [i, f] = some x := by simp [getP, h, hx]
theorem fw_set (h : i < L.length) {fs : List LV} {f : Nat} {x : LV} (hx : fs[f]? = some x) (v : LV) :
    (match (L.set i (.st fs))[i]? with | some z => (L.set i (.st fs)).set i (setP z [f] v) | none => L.set i (.st fs)) = L.set i (.st (fs.set f v)) := by
  have : (L.set i (.st fs))[i]? = some (.st fs) := by simp [h]
  rw [this]
  simp only [setP, hx]
  cases x <;> simp [List.set_set]
theorem fw_self (h : i < L.length) {fs : List LV} (hx : L[i]? = some (.st fs)) : L = L.set i (.st fs) := by
  apply List.ext_getElem?
  intro j
  rw [List.getElem?_set]
  split
  · rename_i e; subst e; exact hx
  · rfl
end

def markPer (k : Nat) : Per := ⟨mText k, (k : Int) + 1, (k : Int) + 2, (k : Int) + 3, (k : Int) + 4, (k : Int) + 5⟩
def markPers (k : Nat) : Nat → List Per
  | 0 => []
  | n + 1 => markPers k n ++ [markPer (k + 6 * n)]
theorem markPers_len (k : Nat) : ∀ n, (markPers k n).length = n
  | 0 => rfl
  | n + 1 => by simp [markPers, markPers_len k n]
def rowPM (k : Nat) (ps : List Per) (i : Nat) : List LV := (markPers k i ++ ps.drop i).map Per.lv
theorem rowPM_len {k : Nat} {ps : List Per} {i : Nat} (h : i ≤ ps.length) : (rowPM k ps i).length = ps.length := by simp [rowPM, markPers_len]; omega
theorem rowPM_get {k : Nat} {ps : List Per} {i : Nat} (h : i < ps.length) : (rowPM k ps i)[i]? = some ps[i].lv := by
  unfold rowPM
  rw [List.getElem?_map, List.getElem?_append_right (by rw [markPers_len]; exact Nat.le_refl _), markPers_len, Nat.sub_self, List.getElem?_drop, Nat.add_zero, List.getElem?_eq_getElem h]
  rfl
theorem rowPM_set {k : Nat} {ps : List Per} {i : Nat} (h : i < ps.length) : (rowPM k ps i).set i (markPer (k + 6 * i)).lv = rowPM k ps (i + 1) := by
  unfold rowPM
  rw [List.drop_eq_getElem_cons h, List.map_append, List.map_cons, List.set_append_right _ _ (by simp [markPers_len])]
  simp [markPers, markPers_len]

theorem markPersonS_spec (ps : List Per) (n : Nat) (hn : n = (ps.map Per.lv).length) (k : Nat) (h1 : k + 6 * ps.length ≤ 2305843009213693952) :
    HSpec env.P 131 [.hs 0 n, .int .i64 (k : Int)] [.arr 87 6 (ps.map Per.lv)] (.int .i64 ((k + 6 * ps.length : Nat) : Int)) [.arr 87 6 ((markPers k ps.length).map Per.lv)] := by
  subst hn
  refine HSpec_of_code (E := env.x [] 1) env_ok.x (fn := Try.f131) Try.func131 rfl Try.call131 _ _ _ _ ?_
  ((repeat ((conv => whnf); first | refine brT ?_ | refine brF ?_)); conv => whnf)
  refine loop_rule (α := Nat) (fun i => [(5, .int .i64 (i : Int)), (1, .int .i64 ((k + 6 * i : Nat) : Int)), (0, .hs 0 (rowPM k ps i).length)]) (fun i => [.arr 87 6 (rowPM k ps i)]) (fun i => ps.length - i) (fun i => i ≤ ps.length) 0 (Nat.zero_le _) ?_ ?_
  · have e0 : ps.map Per.lv = rowPM k ps 0 := by simp [rowPM, markPers]
    have e1 : LV.hs 0 (ps.map Per.lv).length = LV.hs 0 (rowPM k ps 0).length := by rw [e0]
    refine ⟨?_, ⟨congrArg (Blk.arr 87 6) e0, trivial⟩, rfl, rfl⟩
    ((repeat ((conv => whnf); first | refine ⟨e1, ?_⟩ | refine ⟨rfl, ?_⟩)); trivial)
  intro i hi
  have hl := rowPM_len (k := k) hi
  ((repeat ((conv => whnf); first | refine brT ?_ | refine brF ?_)); conv => whnf)
  refine ⟨rfl, fun hm => ?_⟩
  have hm' : ps.length ≤ Go.maxLen := by rw [← hl]; exact hm
  ((repeat ((conv => whnf); first | refine brT ?_ | refine brF ?_)); conv => whnf)
  (refine ⟨fun g1 => ?_, fun g1 => ?_⟩ <;> rw [g1])
  · have hlt : i < ps.length := by rw [ltI_t] at g1; omega
    have e := step_i hlt hm'
    have hiL : i < (rowPM k ps i).length := by omega
    have hg := rowPM_get (k := k) hlt
    have hset := rowPM_set (k := k) hlt
    have w0 : IntKind.i64.wrap (((k + 6 * i : Nat) : Int) + 1) = ((k + 6 * i : Nat) : Int) + 1 := wrap64 (by omega) (by omega)
    have w1 : IntKind.i64.wrap (((k + 6 * i : Nat) : Int) + 1 + 1) = ((k + 6 * i : Nat) : Int) + 2 := by rw [wrap64 (by omega) (by omega)]; omega
    have w2 : IntKind.i64.wrap (((k + 6 * i : Nat) : Int) + 2 + 1) = ((k + 6 * i : Nat) : Int) + 3 := by rw [wrap64 (by omega) (by omega)]; omega
    have w3 : IntKind.i64.wrap (((k + 6 * i : Nat) : Int) + 3 + 1) = ((k + 6 * i : Nat) : Int) + 4 := by rw [wrap64 (by omega) (by omega)]; omega
    have w4 : IntKind.i64.wrap (((k + 6 * i : Nat) : Int) + 4 + 1) = ((k + 6 * i : Nat) : Int) + 5 := by rw [wrap64 (by omega) (by omega)]; omega
    have w5 : IntKind.i64.wrap (((k + 6 * i : Nat) : Int) + 5 + 1) = ((k + 6 * (i + 1) : Nat) : Int) := by rw [wrap64 (by omega) (by omega)]; omega
    have hlen : ∀ x : LV, (rowPM k ps i).length = ((rowPM k ps i).set i x).length := fun x => by simp
    generalize ps[i] = p at hg hset
    generalize hK : ((k + 6 * i : Nat) : Int) = kk at w0 w1 w2 w3 w4 w5 ⊢
    generalize hN : mText (k + 6 * i) = nm
    have hmt := markText_spec (k + 6 * i) (by omega)
    rw [hK, hN] at hmt
    have hfin : (rowPM k ps i).set i (.st [.str nm, .int .i64 (kk + 1), .int .i64 (kk + 2), .int .i64 (kk + 3), .int .i64 (kk + 4), .int .i64 (kk + 5)]) = rowPM k ps (i + 1) := by
      rw [← hset]; unfold markPer Per.lv; rw [hK, hN]
    generalize rowPM k ps i = L at hl hm hiL hg hlen hfin g1 ⊢
    have hgp : getP (.st L) [i] = some (.st [LV.str p.name, LV.int .i64 p.sex, LV.int .i64 p.father, LV.int .i64 p.mother, LV.int .i64 p.born, LV.int .i64 p.died]) := by simp [getP, hg, Per.lv]
    have hgp0 : getP (.st L) [i, 0] = some (.str p.name) := by simp [getP, hg, Per.lv]
    ((repeat ((conv => whnf); first | refine brT ?_ | refine brF ?_)); conv => whnf)
    refine ⟨_, hmt, ?_⟩
    ((repeat ((conv => whnf); first | refine brT ?_ | refine brF ?_)); conv => whnf)
    refine ⟨rfl, rfl, i, rfl, hiL, ?_⟩
    ((repeat ((conv => whnf); first | refine brT ?_ | refine brF ?_)); conv => whnf)
    refine ⟨rfl, by simp, [LV.str p.name, LV.int .i64 p.sex, LV.int .i64 p.father, LV.int .i64 p.mother, LV.int .i64 p.born, LV.int .i64 p.died], hgp, rfl, by simp, ?_⟩
    ((repeat ((conv => whnf); first | refine brT ?_ | refine brF ?_)); conv => whnf)
    refine ⟨rfl, i, [0], .str p.name, rfl, hgp0, rfl, rfl, rfl, L.set i (.st [.str nm, .int .i64 p.sex, .int .i64 p.father, .int .i64 p.mother, .int .i64 p.born, .int .i64 p.died]), by rw [hg]; rfl, ?_⟩
    ((repeat ((conv => whnf); first | refine brT ?_ | refine brF ?_)); conv => whnf)
    rw [w0]
    refine ⟨hlen _, rfl, i, rfl, by simpa using hiL, ?_⟩
    ((repeat ((conv => whnf); first | refine brT ?_ | refine brF ?_)); conv => whnf)
    refine ⟨hlen _, by simp, _, fw_get hiL _, rfl, by simp, ?_⟩
    ((repeat ((conv => whnf); first | refine brT ?_ | refine brF ?_)); conv => whnf)
    refine ⟨hlen _, i, [1], _, rfl, fw_get2 hiL rfl, rfl, rfl, rfl, _, fw_set hiL rfl (.int .i64 (kk + 1)), ?_⟩
    ((repeat ((conv => whnf); first | refine brT ?_ | refine brF ?_)); conv => whnf)
    rw [w1]
    refine ⟨hlen _, rfl, i, rfl, by simpa using hiL, ?_⟩
    ((repeat ((conv => whnf); first | refine brT ?_ | refine brF ?_)); conv => whnf)
    refine ⟨hlen _, by simp, _, fw_get hiL _, rfl, by simp, ?_⟩
    ((repeat ((conv => whnf); first | refine brT ?_ | refine brF ?_)); conv => whnf)
    refine ⟨hlen _, i, [2], _, rfl, fw_get2 hiL rfl, rfl, rfl, rfl, _, fw_set hiL rfl (.int .i64 (kk + 2)), ?_⟩
    ((repeat ((conv => whnf); first | refine brT ?_ | refine brF ?_)); conv => whnf)
    rw [w2]
    refine ⟨hlen _, rfl, i, rfl, by simpa using hiL, ?_⟩
    ((repeat ((conv => whnf); first | refine brT ?_ | refine brF ?_)); conv => whnf)
    refine ⟨hlen _, by simp, _, fw_get hiL _, rfl, by simp, ?_⟩
    ((repeat ((conv => whnf); first | refine brT ?_ | refine brF ?_)); conv => whnf)
    refine ⟨hlen _, i, [3], _, rfl, fw_get2 hiL rfl, rfl, rfl, rfl, _, fw_set hiL rfl (.int .i64 (kk + 3)), ?_⟩
    ((repeat ((conv => whnf); first | refine brT ?_ | refine brF ?_)); conv => whnf)
    rw [w3]
    refine ⟨hlen _, rfl, i, rfl, by simpa using hiL, ?_⟩
    ((repeat ((conv => whnf); first | refine brT ?_ | refine brF ?_)); conv => whnf)
    refine ⟨hlen _, by simp, _, fw_get hiL _, rfl, by simp, ?_⟩
    ((repeat ((conv => whnf); first | refine brT ?_ | refine brF ?_)); conv => whnf)
    refine ⟨hlen _, i, [4], _, rfl, fw_get2 hiL rfl, rfl, rfl, rfl, _, fw_set hiL rfl (.int .i64 (kk + 4)), ?_⟩
    ((repeat ((conv => whnf); first | refine brT ?_ | refine brF ?_)); conv => whnf)
    rw [w4]
    refine ⟨hlen _, rfl, i, rfl, by simpa using hiL, ?_⟩
    ((repeat ((conv => whnf); first | refine brT ?_ | refine brF ?_)); conv => whnf)
    refine ⟨hlen _, by simp, _, fw_get hiL _, rfl, by simp, ?_⟩
    ((repeat ((conv => whnf); first | refine brT ?_ | refine brF ?_)); conv => whnf)
    refine ⟨hlen _, i, [5], _, rfl, fw_get2 hiL rfl, rfl, rfl, rfl, _, fw_set hiL rfl (.int .i64 (kk + 5)), ?_⟩
    ((repeat ((conv => whnf); first | refine brT ?_ | refine brF ?_)); conv => whnf)
    have e5 : LV.hs 0 L.length = LV.hs 0 (rowPM k ps (i + 1)).length := by rw [hl, rowPM_len (by omega)]
    have e6 : LV.int .i64 (IntKind.i64.wrap (kk + 5 + 1)) = LV.int .i64 ((k + 6 * (i + 1) : Nat) : Int) := by rw [w5]
    refine round_end (i + 1) hlt (by omega) ⟨?_, ⟨congrArg (Blk.arr 87 6) hfin, trivial⟩, rfl, rfl⟩
    repeat ((conv => whnf); first | refine ⟨e, ?_⟩ | refine ⟨e6, ?_⟩ | refine ⟨e5, ?_⟩ | refine ⟨rfl, ?_⟩)
    trivial
  · have h3 : i = ps.length := by rw [ltI_f] at g1; omega
    subst h3
    ((repeat ((conv => whnf); first | refine brT ?_ | refine brF ?_)); conv => whnf)
    exact ⟨[.int .i64 ((k + 6 * ps.length : Nat) : Int)], rfl, rfl, .inl ⟨⟨rfl, trivial⟩, ⟨by simp [rowPM], trivial⟩, rfl, rfl⟩⟩
end Go.Proofs.Ytfdjeflnjciloaa

namespace Go.Proofs.Ytfdjeflnjciloaa
open Go.Lg
set_option maxHeartbeats 1600000
set_option maxRecDepth 10000
set_option linter.unusedVariables false
set_option linter.unusedSimpArgs false

def Pr.eq (p q : Pr) : Bool := eqI p.a q.a && eqI p.b q.b
theorem Pr.eq_refl (p : Pr) : p.eq p = true := by simp [Pr.eq, eqI_refl]
theorem eqPair_spec (p q : Pr) : FSpec env.P 159 [p.lv, q.lv] (.bool (p.eq q)) := by
  refine FSpec_of_code env_ok (fn := Try.f159) Try.func159 rfl Try.call159 _ _ ?_
  ((repeat' (((repeat ((conv => whnf); first | refine brT ?_ | refine brF ?_)); conv => whnf); (refine And.intro ?_ ?_ <;> (intro h; rw [h]; revert h; intro _)))); all_goals ((repeat ((conv => whnf); first | refine brT ?_ | refine brF ?_)); conv => whnf))
  all_goals (refine fin ?_; simp_all [Pr.eq, notB])
theorem eqPairS_spec (ps qs : List Pr) : FSpec env.P 81 [.sl (ps.map Pr.lv), .sl (qs.map Pr.lv)] (.bool (eqList Pr.eq ps qs)) := by
  refine FSpec_of_code env_ok (fn := Try.f81) Try.func81 rfl Try.call81 _ _ ?_
  ((repeat ((conv => whnf); first | refine brT ?_ | refine brF ?_)); conv => whnf)
  intro hp
  ((repeat ((conv => whnf); first | refine brT ?_ | refine brF ?_)); conv => whnf)
  intro hq
  ((repeat ((conv => whnf); first | refine brT ?_ | refine brF ?_)); conv => whnf)
  (refine ⟨fun h => ?_, fun h => ?_⟩ <;> rw [h])
  · ((repeat ((conv => whnf); first | refine brT ?_ | refine brF ?_)); conv => whnf)
    refine fin ?_
    rw [notB_t] at h
    rw [eqList_len (eqI_nolen h)]
  rw [notB_f] at h
  have hl := eqI_len h
  have hp' : ps.length ≤ Go.maxLen := by simpa using hp
  ((repeat ((conv => whnf); first | refine brT ?_ | refine brF ?_)); conv => whnf)
  refine loop_rule (α := Nat) (fun k => [(5, .int .i64 (k : Int))]) (fun _ => []) (fun k => ps.length - k) (fun k => k ≤ ps.length ∧ eqTo Pr.eq ps qs k) 0 ⟨Nat.zero_le _, fun _ _ _ h => absurd h (Nat.not_lt_zero _)⟩ ?_ ?_
  · refine ⟨?_, trivial, rfl, rfl⟩
    ((repeat ((conv => whnf); refine ⟨rfl, ?_⟩)); trivial)
  rintro k ⟨hk, he⟩
  ((repeat ((conv => whnf); first | refine brT ?_ | refine brF ?_)); conv => whnf)
  intro _
  ((repeat ((conv => whnf); first | refine brT ?_ | refine brF ?_)); conv => whnf)
  (refine ⟨fun h1 => ?_, fun h1 => ?_⟩ <;> rw [h1])
  · have hlt : k < ps.length := by rw [ltI_t] at h1; simp at h1; omega
    have hlt2 : k < qs.length := by omega
    ((repeat ((conv => whnf); first | refine brT ?_ | refine brF ?_)); conv => whnf)
    refine ⟨true, by kernel_rfl, ?_⟩
    ((repeat ((conv => whnf); first | refine brT ?_ | refine brF ?_)); conv => whnf)
    refine ⟨k, ps[k].lv, rfl, by simp [hlt], rfl, ?_⟩
    ((repeat ((conv => whnf); first | refine brT ?_ | refine brF ?_)); conv => whnf)
    refine ⟨k, qs[k].lv, rfl, by simp [hlt2], rfl, ?_⟩
    ((repeat ((conv => whnf); first | refine brT ?_ | refine brF ?_)); conv => whnf)
    refine ⟨_, eqPair_spec ps[k] qs[k], ?_⟩
    ((repeat ((conv => whnf); first | refine brT ?_ | refine brF ?_)); conv => whnf)
    (refine ⟨fun h3 => ?_, fun h3 => ?_⟩ <;> rw [h3])
    · rw [notB_t] at h3
      ((repeat ((conv => whnf); first | refine brT ?_ | refine brF ?_)); conv => whnf)
      refine fin ?_
      rw [eqList_no (k := k) (x := ps[k]) (y := qs[k]) (by simp [hlt]) (by simp [hlt2]) h3]
    · rw [notB_f] at h3
      ((repeat ((conv => whnf); first | refine brT ?_ | refine brF ?_)); conv => whnf)
      refine round_end (k + 1) ⟨hlt, he.succ (x := ps[k]) (y := qs[k]) (by simp [hlt]) (by simp [hlt2]) h3⟩ (by omega) ⟨?_, trivial, rfl, rfl⟩
      have e := step_i hlt hp'
      ((repeat ((conv => whnf); first | refine ⟨e, ?_⟩ | refine ⟨rfl, ?_⟩)); trivial)
  · have h3 : ps.length ≤ k := by rw [ltI_f] at h1; simp at h1; omega
    have h4 : k = ps.length := by omega
    subst h4
    ((repeat ((conv => whnf); first | refine brT ?_ | refine brF ?_)); conv => whnf)
    refine fin ?_
    rw [eqTo.all hl he]
theorem eqPairS_refl (ps : List Pr) : eqList Pr.eq ps ps = true := eqList_refl Pr.eq_refl ps

def markPrs (k : Nat) : Nat → List Pr
  | 0 => []
  | n + 1 => markPrs k n ++ [⟨((k + 2 * n : Nat) : Int), ((k + 2 * n : Nat) : Int) + 1⟩]
theorem markPrs_len (k : Nat) : ∀ n, (markPrs k n).length = n
  | 0 => rfl
  | n + 1 => by simp [markPrs, markPrs_len k n]
theorem markPrs_get (k : Nat) : ∀ (n i : Nat), i < n → (markPrs k n)[i]? = some ⟨((k + 2 * i : Nat) : Int), ((k + 2 * i : Nat) : Int) + 1⟩
  | 0, i, h => by omega
  | n + 1, i, h => by
    simp only [markPrs]
    by_cases e : i = n
    · subst e; rw [List.getElem?_append_right (by rw [markPrs_len]; exact Nat.le_refl _), markPrs_len]; simp
    · rw [List.getElem?_append_left (by rw [markPrs_len]; omega)]; exact markPrs_get k n i (by omega)
def rowQM (k : Nat) (ps : List Pr) (i : Nat) : List LV := (markPrs k i ++ ps.drop i).map Pr.lv
theorem rowQM_len {k : Nat} {ps : List Pr} {i : Nat} (h : i ≤ ps.length) : (rowQM k ps i).length = ps.length := by simp [rowQM, markPrs_len]; omega
theorem rowQM_get {k : Nat} {ps : List Pr} {i : Nat} (h : i < ps.length) : (rowQM k ps i)[i]? = some ps[i].lv := by
  unfold rowQM
  rw [List.getElem?_map, List.getElem?_append_right (by rw [markPrs_len]; exact Nat.le_refl _), markPrs_len, Nat.sub_self, List.getElem?_drop, Nat.add_zero, List.getElem?_eq_getElem h]
  rfl
theorem rowQM_set {k : Nat} {ps : List Pr} {i : Nat} (h : i < ps.length) : (rowQM k ps i).set i (Pr.lv ⟨((k + 2 * i : Nat) : Int), ((k + 2 * i : Nat) : Int) + 1⟩) = rowQM k ps (i + 1) := by
  unfold rowQM
  rw [List.drop_eq_getElem_cons h, List.map_append, List.map_cons, List.set_append_right _ _ (by simp [markPrs_len])]
  simp [markPrs, markPrs_len]

theorem markPairS_spec (ps : List Pr) (n : Nat) (hn : n = (ps.map Pr.lv).length) (k : Nat) (h1 : k + 2 * ps.length ≤ 2305843009213693952) :
    HSpec env.P 82 [.hs 0 n, .int .i64 (k : Int)] [.arr 109 2 (ps.map Pr.lv)] (.int .i64 ((k + 2 * ps.length : Nat) : Int)) [.arr 109 2 ((markPrs k ps.length).map Pr.lv)] := by
  subst hn
  refine HSpec_of_code (E := env.x [] 1) env_ok.x (fn := Try.f82) Try.func82 rfl Try.call82 _ _ _ _ ?_
  ((repeat ((conv => whnf); first | refine brT ?_ | refine brF ?_)); conv => whnf)
  refine loop_rule (α := Nat) (fun i => [(5, .int .i64 (i : Int)), (1, .int .i64 ((k + 2 * i : Nat) : Int)), (0, .hs 0 (rowQM k ps i).length)]) (fun i => [.arr 109 2 (rowQM k ps i)]) (fun i => ps.length - i) (fun i => i ≤ ps.length) 0 (Nat.zero_le _) ?_ ?_
  · have e0 : ps.map Pr.lv = rowQM k ps 0 := by simp [rowQM, markPrs]
    have e1 : LV.hs 0 (ps.map Pr.lv).length = LV.hs 0 (rowQM k ps 0).length := by rw [e0]
    refine ⟨?_, ⟨congrArg (Blk.arr 109 2) e0, trivial⟩, rfl, rfl⟩
    ((repeat ((conv => whnf); first | refine ⟨e1, ?_⟩ | refine ⟨rfl, ?_⟩)); trivial)
  intro i hi
  have hl := rowQM_len (k := k) hi
  ((repeat ((conv => whnf); first | refine brT ?_ | refine brF ?_)); conv => whnf)
  refine ⟨rfl, fun hm => ?_⟩
  have hm' : ps.length ≤ Go.maxLen := by rw [← hl]; exact hm
  ((repeat ((conv => whnf); first | refine brT ?_ | refine brF ?_)); conv => whnf)
  (refine ⟨fun g1 => ?_, fun g1 => ?_⟩ <;> rw [g1])
  · have hlt : i < ps.length := by rw [ltI_t] at g1; omega
    have e := step_i hlt hm'
    have hiL : i < (rowQM k ps i).length := by omega
    have hg := rowQM_get (k := k) hlt
    have hset := rowQM_set (k := k) hlt
    have w0 : IntKind.i64.wrap (((k + 2 * i : Nat) : Int) + 1) = ((k + 2 * i : Nat) : Int) + 1 := wrap64 (by omega) (by omega)
    have w3 : IntKind.i64.wrap (((k + 2 * i : Nat) : Int) + 1 + 1) = ((k + 2 * (i + 1) : Nat) : Int) := by rw [wrap64 (by omega) (by omega)]; omega
    have hlen : ∀ x : LV, (rowQM k ps i).length = ((rowQM k ps i).set i x).length := fun x => by simp
    generalize ps[i] = p at hg hset
    generalize hK : ((k + 2 * i : Nat) : Int) = kk at w0 w3 hset ⊢
    have hfin : (rowQM k ps i).set i (.st [.int .i64 kk, .int .i64 (kk + 1)]) = rowQM k ps (i + 1) := hset
    generalize rowQM k ps i = L at hl hm hiL hg hlen hfin g1 ⊢
    have hgp : getP (.st L) [i] = some (.st [LV.int .i64 p.a, LV.int .i64 p.b]) := by simp [getP, hg, Pr.lv]
    have hgp0 : getP (.st L) [i, 0] = some (.int .i64 p.a) := by simp [getP, hg, Pr.lv]
    ((repeat ((conv => whnf); first | refine brT ?_ | refine brF ?_)); conv => whnf)
    refine ⟨rfl, rfl, i, rfl, hiL, ?_⟩
    ((repeat ((conv => whnf); first | refine brT ?_ | refine brF ?_)); conv => whnf)
    refine ⟨rfl, by simp, [LV.int .i64 p.a, LV.int .i64 p.b], hgp, rfl, by simp, ?_⟩
    ((repeat ((conv => whnf); first | refine brT ?_ | refine brF ?_)); conv => whnf)
    refine ⟨rfl, i, [0], .int .i64 p.a, rfl, hgp0, rfl, rfl, rfl, L.set i (.st [.int .i64 kk, .int .i64 p.b]), by rw [hg]; rfl, ?_⟩
    ((repeat ((conv => whnf); first | refine brT ?_ | refine brF ?_)); conv => whnf)
    rw [w0]
    refine ⟨hlen _, rfl, i, rfl, by simpa using hiL, ?_⟩
    ((repeat ((conv => whnf); first | refine brT ?_ | refine brF ?_)); conv => whnf)
    refine ⟨hlen _, by simp, _, fw_get hiL _, rfl, by simp, ?_⟩
    ((repeat ((conv => whnf); first | refine brT ?_ | refine brF ?_)); conv => whnf)
    refine ⟨hlen _, i, [1], _, rfl, fw_get2 hiL rfl, rfl, rfl, rfl, _, fw_set hiL rfl (.int .i64 (kk + 1)), ?_⟩
    ((repeat ((conv => whnf); first | refine brT ?_ | refine brF ?_)); conv => whnf)
    have e5 : LV.hs 0 L.length = LV.hs 0 (rowQM k ps (i + 1)).length := by rw [hl, rowQM_len (by omega)]
    have e6 : LV.int .i64 (IntKind.i64.wrap (kk + 1 + 1)) = LV.int .i64 ((k + 2 * (i + 1) : Nat) : Int) := by rw [w3]
    refine round_end (i + 1) hlt (by omega) ⟨?_, ⟨congrArg (Blk.arr 109 2) hfin, trivial⟩, rfl, rfl⟩
    repeat ((conv => whnf); first | refine ⟨e, ?_⟩ | refine ⟨e6, ?_⟩ | refine ⟨e5, ?_⟩ | refine ⟨rfl, ?_⟩)
    trivial
  · have h3 : i = ps.length := by rw [ltI_f] at g1; omega
    subst h3
    ((repeat ((conv => whnf); first | refine brT ?_ | refine brF ?_)); conv => whnf)
    exact ⟨[.int .i64 ((k + 2 * ps.length : Nat) : Int)], rfl, rfl, .inl ⟨⟨rfl, trivial⟩, ⟨by simp [rowQM], trivial⟩, rfl, rfl⟩⟩

theorem heldPairS_spec (k n : Nat) (h1 : k + 2 * n ≤ 2305843009213693952) : FSpec env.P 84 [.sl ((markPrs k n).map Pr.lv), .int .i64 (k : Int)] (.int .i64 ((k + 2 * n : Nat) : Int)) := by
  refine FSpec_of_code env_ok (fn := Try.f84) Try.func84 rfl Try.call84 _ _ ?_
  have hl : (List.map Pr.lv (markPrs k n)).length = n := by simp [markPrs_len]
  ((repeat ((conv => whnf); first | refine brT ?_ | refine brF ?_)); conv => whnf)
  refine loop_rule (α := Nat) (fun i => [(5, .int .i64 (i : Int)), (1, .int .i64 ((k + 2 * i : Nat) : Int))]) (fun i => []) (fun i => n - i) (fun i => i ≤ n) 0 (Nat.zero_le _) ?_ ?_
  · refine ⟨?_, trivial, rfl, rfl⟩
    ((repeat ((conv => whnf); refine ⟨rfl, ?_⟩)); trivial)
  intro i hi
  ((repeat ((conv => whnf); first | refine brT ?_ | refine brF ?_)); conv => whnf)
  intro hm
  rw [hl] at hm
  ((repeat ((conv => whnf); first | refine brT ?_ | refine brF ?_)); conv => whnf)
  (refine ⟨fun g1 => ?_, fun g1 => ?_⟩ <;> rw [g1])
  · have hlt : i < n := by rw [ltI_t] at g1; omega
    have e := step_i hlt hm
    have hg : (List.map Pr.lv (markPrs k n))[i]? = some (.st [.int .i64 ((k + 2 * i : Nat) : Int), .int .i64 (((k + 2 * i : Nat) : Int) + 1)]) := by
      rw [List.getElem?_map, markPrs_get k n i hlt]; rfl
    have w0 : IntKind.i64.wrap (((k + 2 * i : Nat) : Int) + 1) = ((k + 2 * i : Nat) : Int) + 1 := wrap64 (by omega) (by omega)
    have w3 : IntKind.i64.wrap (((k + 2 * i : Nat) : Int) + 1 + 1) = ((k + 2 * (i + 1) : Nat) : Int) := by rw [wrap64 (by omega) (by omega)]; omega
    generalize hK : ((k + 2 * i : Nat) : Int) = kk at w0 w3 hg ⊢
    have e6 : LV.int .i64 (IntKind.i64.wrap (kk + 1 + 1)) = LV.int .i64 ((k + 2 * (i + 1) : Nat) : Int) := by rw [w3]
    ((repeat ((conv => whnf); first | refine brT ?_ | refine brF ?_)); conv => whnf)
    refine ⟨i, _, rfl, hg, rfl, ?_⟩
    ((repeat ((conv => whnf); first | refine brT ?_ | refine brF ?_)); conv => whnf)
    rw [show notB (eqI kk kk) = false by simp [notB, eqI]]
    ((repeat ((conv => whnf); first | refine brT ?_ | refine brF ?_)); conv => whnf)
    rw [w0]
    refine ⟨i, _, rfl, hg, rfl, ?_⟩
    ((repeat ((conv => whnf); first | refine brT ?_ | refine brF ?_)); conv => whnf)
    rw [show notB (eqI (kk + 1) (kk + 1)) = false by simp [notB, eqI]]
    ((repeat ((conv => whnf); first | refine brT ?_ | refine brF ?_)); conv => whnf)
    refine round_end (i + 1) hlt (by omega) ⟨?_, trivial, rfl, rfl⟩
    repeat ((conv => whnf); first | refine ⟨e, ?_⟩ | refine ⟨e6, ?_⟩ | refine ⟨rfl, ?_⟩)
    trivial
  · have h3 : i = n := by rw [ltI_f] at g1; omega
    subst h3
    ((repeat ((conv => whnf); first | refine brT ?_ | refine brF ?_)); conv => whnf)
    exact ⟨rfl, rfl, List.nodup_nil⟩
end Go.Proofs.Ytfdjeflnjciloaa

namespace Go.Proofs.Ytfdjeflnjciloaa
open Go.Lg
set_option maxHeartbeats 1600000
set_option maxRecDepth 10000
set_option linter.unusedVariables false
set_option linter.unusedSimpArgs false

theorem flats_prs : ∀ xs : List Pr, flatsB (xs.map Pr.lv) = true
  | [] => rfl
  | x :: xs => by simp [flatsB, flatB, Pr.lv]; exact flats_prs xs

theorem law_pairsOf (n : Int) (rows : List (List Int)) (hl : RowsLen rows) : FSpec env.P 16 [relLV n rows] (.bool true) := by
  refine FSpec_of_code (E := env.x [47, 69, 75, 82, 83] 0) env_ok.x (fn := Try.f16) Try.func16 rfl Try.call16 _ _ ?_
  have hpl := pairsL_len n rows
  ((repeat ((conv => whnf); first | refine brT ?_ | refine brF ?_)); conv => whnf)
  refine ⟨_, szRelation_spec n rows 1048576, ?_⟩
  ((repeat ((conv => whnf); first | refine brT ?_ | refine brF ?_)); conv => whnf)
  by_cases h0 : 0 ≤ szRows 1048576 rows
  rotate_left
  · rw [show ltI (szRows 1048576 rows) 0 = true by rw [ltI_t]; omega]
    ((repeat ((conv => whnf); first | refine brT ?_ | refine brF ?_)); conv => whnf)
    rw [show ltI (-1) 0 = true by rw [ltI_t]; omega]
    ((repeat ((conv => whnf); first | refine brT ?_ | refine brF ?_)); conv => whnf)
    exact fin rfl
  obtain ⟨hb, ht, hlen, _, hf⟩ := szRows_ok (by omega) (by omega) hl h0
  rw [hf]
  ((repeat ((conv => whnf); first | refine brT ?_ | refine brF ?_)); conv => whnf)
  rw [hf]
  ((repeat ((conv => whnf); first | refine brT ?_ | refine brF ?_)); conv => whnf)
  refine ⟨[], _, _, _, _, toRelation_h n rows hb, rfl, rfl, rfl, trivial, ?_⟩
  ((repeat ((conv => whnf); first | refine brT ?_ | refine brF ?_)); conv => whnf)
  refine ⟨[], _, _, _, _, specPairs_h n rows, rfl, ?_⟩
  ((repeat ((conv => whnf); first | refine brT ?_ | refine brF ?_)); conv => whnf)
  refine ⟨rfl, _, dms_rows _, ?_⟩
  ((repeat ((conv => whnf); first | refine brT ?_ | refine brF ?_)); conv => whnf)
  refine ⟨rfl, rfl, ⟨rfl, flats_prs _, trivial⟩, ?_⟩
  ((repeat ((conv => whnf); first | refine brT ?_ | refine brF ?_)); conv => whnf)
  refine ⟨[], _, _, _, _, toRelation_h n rows hb, rfl, rfl, rfl, trivial, ?_⟩
  ((repeat ((conv => whnf); first | refine brT ?_ | refine brF ?_)); conv => whnf)
  refine ⟨[], _, _, _, _, pairsOf_h n rows, rfl, ?_⟩
  ((repeat ((conv => whnf); first | refine brT ?_ | refine brF ?_)); conv => whnf)
  refine ⟨rfl, _, dms_rows _, ?_⟩
  ((repeat ((conv => whnf); first | refine brT ?_ | refine brF ?_)); conv => whnf)
  refine ⟨rfl, rfl, ⟨rfl, flats_prs _, trivial⟩, ?_⟩
  ((repeat ((conv => whnf); first | refine brT ?_ | refine brF ?_)); conv => whnf)
  refine ⟨rfl, ?_⟩
  ((repeat ((conv => whnf); first | refine brT ?_ | refine brF ?_)); conv => whnf)
  refine ⟨rfl, ?_⟩
  ((repeat ((conv => whnf); first | refine brT ?_ | refine brF ?_)); conv => whnf)
  refine ⟨_, eqPairS_spec _ _, ?_⟩
  rw [eqPairS_refl]
  ((repeat ((conv => whnf); first | refine brT ?_ | refine brF ?_)); conv => whnf)
  rw [show notB true = false by simp [notB]]
  ((repeat ((conv => whnf); first | refine brT ?_ | refine brF ?_)); conv => whnf)
  refine ⟨true, by kernel_rfl, ?_⟩
  ((repeat ((conv => whnf); first | refine brT ?_ | refine brF ?_)); conv => whnf)
  refine ⟨_, toRelation_f n rows hb, ?_⟩
  ((repeat ((conv => whnf); first | refine brT ?_ | refine brF ?_)); conv => whnf)
  refine ⟨rfl, _, dms_rows _, ?_⟩
  ((repeat ((conv => whnf); first | refine brT ?_ | refine brF ?_)); conv => whnf)
  refine ⟨_, eqRelation_spec n rows n rows, ?_⟩
  rw [eqRel_refl]
  ((repeat ((conv => whnf); first | refine brT ?_ | refine brF ?_)); conv => whnf)
  rw [show notB true = false by simp [notB]]
  ((repeat ((conv => whnf); first | refine brT ?_ | refine brF ?_)); conv => whnf)
  refine ⟨[3], _, _, _, _, markRelation_spec _ _ _ rfl 1 (by omega) (by omega), rfl, rfl, rfl, trivial, ?_⟩
  ((repeat ((conv => whnf); first | refine brT ?_ | refine brF ?_)); conv => whnf)
  rw [show ltI (1 + (tot rows : Int)) 0 = false by rw [ltI_f]; omega]
  ((repeat ((conv => whnf); first | refine brT ?_ | refine brF ?_)); conv => whnf)
  refine ⟨rfl, ?_⟩
  ((repeat ((conv => whnf); first | refine brT ?_ | refine brF ?_)); conv => whnf)
  refine ⟨rfl, ?_⟩
  ((repeat ((conv => whnf); first | refine brT ?_ | refine brF ?_)); conv => whnf)
  refine ⟨_, eqPairS_spec _ _, ?_⟩
  rw [eqPairS_refl]
  ((repeat ((conv => whnf); first | refine brT ?_ | refine brF ?_)); conv => whnf)
  rw [show notB true = false by simp [notB]]
  ((repeat ((conv => whnf); first | refine brT ?_ | refine brF ?_)); conv => whnf)
  refine ⟨[5], _, _, _, _, markPairS_spec (pairsL n rows) _ rfl 1 (by omega), rfl, rfl, rfl, trivial, ?_⟩
  ((repeat ((conv => whnf); first | refine brT ?_ | refine brF ?_)); conv => whnf)
  refine ⟨by simp [markPrs_len], ?_⟩
  ((repeat ((conv => whnf); first | refine brT ?_ | refine brF ?_)); conv => whnf)
  refine ⟨_, heldPairS_spec 1 (pairsL n rows).length (by omega), ?_⟩
  ((repeat ((conv => whnf); first | refine brT ?_ | refine brF ?_)); conv => whnf)
  rw [show ltI ((1 + 2 * (pairsL n rows).length : Nat) : Int) 0 = false by rw [ltI_f]; omega]
  ((repeat ((conv => whnf); first | refine brT ?_ | refine brF ?_)); conv => whnf)
  rw [eqI_refl, show notB true = false by simp [notB]]
  ((repeat ((conv => whnf); first | refine brT ?_ | refine brF ?_)); conv => whnf)
  refine ⟨[], _, _, _, _, toRelation_h n rows hb, rfl, rfl, rfl, trivial, ?_⟩
  ((repeat ((conv => whnf); first | refine brT ?_ | refine brF ?_)); conv => whnf)
  refine ⟨[], _, _, _, _, pairsOf_h n rows, rfl, ?_⟩
  ((repeat ((conv => whnf); first | refine brT ?_ | refine brF ?_)); conv => whnf)
  refine ⟨rfl, _, dms_rows _, ?_⟩
  ((repeat ((conv => whnf); first | refine brT ?_ | refine brF ?_)); conv => whnf)
  refine ⟨rfl, rfl, ⟨rfl, flats_prs _, trivial⟩, ?_⟩
  ((repeat ((conv => whnf); first | refine brT ?_ | refine brF ?_)); conv => whnf)
  refine ⟨rfl, ?_⟩
  ((repeat ((conv => whnf); first | refine brT ?_ | refine brF ?_)); conv => whnf)
  refine ⟨rfl, ?_⟩
  ((repeat ((conv => whnf); first | refine brT ?_ | refine brF ?_)); conv => whnf)
  refine ⟨_, eqPairS_spec _ _, ?_⟩
  rw [eqPairS_refl]
  ((repeat ((conv => whnf); first | refine brT ?_ | refine brF ?_)); conv => whnf)
  rw [show notB true = false by simp [notB]]
  ((repeat ((conv => whnf); first | refine brT ?_ | refine brF ?_)); conv => whnf)
  refine ⟨by simp [markPrs_len], ?_⟩
  ((repeat ((conv => whnf); first | refine brT ?_ | refine brF ?_)); conv => whnf)
  refine ⟨_, heldPairS_spec 1 (pairsL n rows).length (by omega), ?_⟩
  ((repeat ((conv => whnf); first | refine brT ?_ | refine brF ?_)); conv => whnf)
  rw [show ltI ((1 + 2 * (pairsL n rows).length : Nat) : Int) 0 = false by rw [ltI_f]; omega]
  ((repeat ((conv => whnf); first | refine brT ?_ | refine brF ?_)); conv => whnf)
  rw [eqI_refl, show notB true = false by simp [notB]]
  ((repeat ((conv => whnf); first | refine brT ?_ | refine brF ?_)); conv => whnf)
  exact fin rfl
end Go.Proofs.Ytfdjeflnjciloaa
