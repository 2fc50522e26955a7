/- Contracts of functions of the program and of its model, told over readings. -/
import Derived.Test.YtpfipmjmblgjfaaFWGF
import Derived.Test.YtpfipmjmblgjfaaFWGE
namespace Go.Proofs.Ytpfipmjmblgjfaa
open Go.Lg
set_option maxHeartbeats 6400000
set_option maxRecDepth 10000
set_option linter.unusedVariables false
set_option linter.unusedSimpArgs false


theorem Pr.eq_comm' (p q : Pr) : p.eq q = q.eq p := by unfold Pr.eq; rw [eqI_comm p.a, eqI_comm p.b]
theorem eqList_comm' : ∀ (xs ys : List Pr), eqList Pr.eq xs ys = eqList Pr.eq ys xs
  | [], [] => rfl
  | [], _ :: _ => by simp [eqList]
  | _ :: _, [] => by simp [eqList]
  | x :: xs, y :: ys => by simp only [eqList]; rw [Pr.eq_comm', eqList_comm' xs ys]
theorem Ty.eq_comm' (t u : Ty) : t.eq u = u.eq t := by
  unfold Ty.eq eqTyp
  rw [eqI_comm, eqList_comm']
theorem any_comm (R : List Ty) (u : Ty) : (R.any fun t => t.eq u) = R.any fun t => u.eq t := by
  congr 1; funext t; exact Ty.eq_comm' t u
theorem fitL_len (rs : List Rul) (e : Int) (ss : List Pr) : (fitL rs e ss).length ≤ ss.length * rs.length := fitTo_len rs e ss ss.length
theorem fitL_le {rs : List Rul} {e : Int} {ss : List Pr} {p : Nat × Nat} (h : p ∈ fitL rs e ss) : ∃ hk : p.2 < rs.length, p.1 + rs[p.2].fr.length ≤ ss.length := by
  obtain ⟨_, hk, hf⟩ := fit_mem h
  exact ⟨hk, fits_leN hf⟩
theorem reductsOf_h (rs : List Rul) (e : Int) (ss : List Pr) (hl : ss.length ≤ 8) (hr : rs.length ≤ 1048576) (hB : ∀ r ∈ rs, r.to.length + ss.length ≤ 2097152) :
    HSpec env.P 134 [.sl (rs.map Rul.lv), typLV e ss] [] (.hs 0 ((rdS rs e ss (fitL rs e ss)).map Ty.own).length) [.tree 52 2 ((rdS rs e ss (fitL rs e ss)).map Ty.own)] := by
  refine HSpec_of_codeR (E := env.x [179, 180] 0) env_ok.x (fn := Try.f134) Try.func134 rfl (by kernel_rfl) Try.call134 _ _ _ _ ?_
  have hl' : ss.length ≤ Go.maxLen := by unfold Go.maxLen; omega
  have hr' : rs.length ≤ Go.maxLen := by unfold Go.maxLen; omega
  have hN : ∀ j, (rdS rs e ss ((fitL rs e ss).take j)).length ≤ 9437184 := fun j => by
    have a := rdS_len rs e ss ((fitL rs e ss).take j)
    have b := fitL_len rs e ss
    have c : ss.length * rs.length ≤ 8 * rs.length := Nat.mul_le_mul hl (Nat.le_refl _)
    rw [List.length_take] at a
    omega
  ((repeat ((conv => whnf); first | refine brT ?_ | refine brF ?_)); conv => whnf)
  refine ⟨[], _, _, _, _, fittings_h rs e ss, rfl, rfl, rfl, trivial, ?_⟩
  ((repeat ((conv => whnf); first | refine brT ?_ | refine brF ?_)); conv => whnf)
  refine rangeR_ruleS fitE (fitL rs e ss)
    (fun j => [.box (.sl (rs.map Rul.lv)), .box (typLV e ss), .box (.hs 5 ((rdS rs e ss ((fitL rs e ss).take j)).map Ty.own).length), .dead, .dead, .tree 52 2 ((rdS rs e ss ((fitL rs e ss).take j)).map Ty.own)]) (fun _ => True)
    [.box (.sl (rs.map Rul.lv)), .box (typLV e ss), .box (.hs 5 0), .box (.sl (rs.map Rul.lv)), .box (typLV e ss), .tree 52 2 []]
    (.nl [.box 2 [] true 52 2] [.old 0, .old 1, .old 2, .old 3, .old 4, .old 5] ⟨?_, ⟨rfl, rfl, rfl, rfl, rfl, rfl, rfl, rfl, rfl, rfl, rfl, rfl, trivial⟩, rfl⟩) rfl rfl (fun K h => h) (fittings_g rs e ss hl' hr') (by kernel_rfl) trivial 6 (fun _ => rfl) (fun _ _ => rfl) ?_ ?_
  · ((repeat ((conv => whnf); refine ⟨rfl, rfl, ?_⟩)); trivial)
  · intro j y hy _
    obtain ⟨i, k⟩ := y
    have hmem : (i, k) ∈ fitL rs e ss := List.mem_of_getElem? hy
    obtain ⟨hk, hle⟩ := fitL_le hmem
    simp only at hk hle
    have hBk := hB rs[k] (List.getElem_mem hk)
    have hrd : rdAt rs e ss (i, k) = ⟨e, replS rs[k] ss i⟩ := by simp [rdAt, hk]
    have hrep := replaced_h rs[k] e ss i hle hl' (repl_len hBk)
    have hgk : (rs.map Rul.lv)[k]? = some rs[k].lv := by simp [hk]
    have htk : (fitL rs e ss).take (j + 1) = (fitL rs e ss).take j ++ [(i, k)] := by rw [List.take_add_one, hy]; rfl
    have hs1 := rdS_snoc rs e ss ((fitL rs e ss).take j) (i, k)
    rw [← htk, hrd] at hs1
    have hbound := hN j
    generalize replS rs[k] ss i = T at hrep hs1
    generalize hR : rdS rs e ss ((fitL rs e ss).take j) = R at hs1 hbound
    show codeW _ _ (setPs _ [.int .i64 (i : Int), .int .i64 (k : Int)] _) _ _
    ((repeat ((conv => whnf); first | refine brT ?_ | refine brF ?_)); conv => whnf)
    simp only [hR]
    refine ⟨false, 0, 0, 0, [0, 1, 2, 3, 4, 5], (.alt 6 (.one 7 (.one 8 .done)) (.one 7 (.one 6 (.one 8 .done)))), by kernel_rfl, ?_⟩
    ((repeat ((conv => whnf); first | refine brT ?_ | refine brF ?_)); conv => whnf)
    refine ⟨k, rs[k].lv, rfl, hgk, rfl, ?_⟩
    ((repeat ((conv => whnf); first | refine brT ?_ | refine brF ?_)); conv => whnf)
    apply Exists.intro
    apply Exists.intro
    refine And.intro ?_ ?_
    · refine And.intro ?_ ?_
      · refine ⟨_, _, _, _, hrep, rfl, rfl, rfl, trivial, ?_⟩
        ((repeat ((conv => whnf); first | refine brT ?_ | refine brF ?_)); conv => whnf)
        refine Weak.idn ?_ ?_ rfl
        · ((repeat ((conv => whnf); refine ⟨rfl, ?_⟩)); trivial)
        · exact ⟨rfl, rfl, rfl, rfl, rfl, rfl, rfl, rfl, trivial⟩
      · ((repeat ((conv => whnf); first | refine brT ?_ | refine brF ?_)); conv => whnf)
        refine ⟨_, _, _, _, hrep, rfl, rfl, rfl, trivial, ?_⟩
        ((repeat ((conv => whnf); first | refine brT ?_ | refine brF ?_)); conv => whnf)
        refine .inr ⟨[.old 0, .old 1, .old 2, .old 3, .old 4, .old 5, .old 7, .old 6], ?_, ⟨rfl, rfl, rfl, rfl, rfl, rfl, rfl, rfl, rfl, rfl, rfl, rfl, rfl, rfl, rfl, rfl, trivial⟩, rfl⟩
        ((repeat ((conv => whnf); refine ⟨rfl, rfl, ?_⟩)); trivial)
    ((repeat ((conv => whnf); first | refine brT ?_ | refine brF ?_)); conv => whnf)
    refine ⟨rfl, _, dms_ty R, ?_⟩
    ((repeat ((conv => whnf); first | refine brT ?_ | refine brF ?_)); conv => whnf)
    refine ⟨rfl, ?_⟩
    ((repeat ((conv => whnf); first | refine brT ?_ | refine brF ?_)); conv => whnf)
    refine ⟨_, containsTy_spec ⟨e, T⟩ R, ?_⟩
    rw [any_comm]
    ((repeat ((conv => whnf); first | refine brT ?_ | refine brF ?_)); conv => whnf)
    (refine ⟨fun h4 => ?_, fun h4 => ?_⟩ <;> rw [h4])
    · rw [notB_t] at h4
      have hs2 : addT R ⟨e, T⟩ = R ++ [⟨e, T⟩] := by unfold addT; rw [h4]
      rw [hs2] at hs1
      ((repeat ((conv => whnf); first | refine brT ?_ | refine brF ?_)); conv => whnf)
      refine ⟨rfl, ?_⟩
      ((repeat ((conv => whnf); first | refine brT ?_ | refine brF ?_)); conv => whnf)
      have eL : R.map Ty.own ++ [LV.st [.int .i64 e, .own 112 2 (T.map Pr.lv)]] = (R ++ [(⟨e, T⟩ : Ty)]).map Ty.own := by rw [List.map_append]; rfl
      refine ⟨rfl, rfl, ?_, ?_, ?_⟩
      · simp; unfold Go.maxLen; omega
      · simp; omega
      rw [eL, ← hs1]
      ((repeat ((conv => whnf); first | refine brT ?_ | refine brF ?_)); conv => whnf)
      refine ⟨[.box (.sl (rs.map Rul.lv)), .box (typLV e ss), .box (.hs 5 ((rdS rs e ss ((fitL rs e ss).take (j + 1))).map Ty.own).length), .dead, .dead, .tree 52 2 ((rdS rs e ss ((fitL rs e ss).take (j + 1))).map Ty.own)],
        .inr ⟨[.old 0, .old 1, .old 2, .old 3, .old 4, .old 9], ?_, ⟨rfl, rfl, rfl, rfl, rfl, rfl, rfl, rfl, rfl, rfl, rfl, rfl, trivial⟩, rfl⟩, rfl, trivial⟩
      ((repeat ((conv => whnf); refine ⟨rfl, rfl, ?_⟩)); trivial)
    · rw [notB_f] at h4
      have hs2 : addT R ⟨e, T⟩ = R := by unfold addT; rw [h4]
      rw [hs2] at hs1
      ((repeat ((conv => whnf); first | refine brT ?_ | refine brF ?_)); conv => whnf)
      rw [hs1]
      refine ⟨[.box (.sl (rs.map Rul.lv)), .box (typLV e ss), .box (.hs 5 (R.map Ty.own).length), .dead, .dead, .tree 52 2 (R.map Ty.own)],
        .inr ⟨[.old 0, .old 1, .old 2, .old 3, .old 4, .old 5], ?_, ⟨rfl, rfl, rfl, rfl, rfl, rfl, rfl, rfl, rfl, rfl, rfl, rfl, trivial⟩, rfl⟩, rfl, trivial⟩
      ((repeat ((conv => whnf); refine ⟨rfl, rfl, ?_⟩)); trivial)
  · intro _
    rw [List.take_of_length_le (Nat.le_refl _)]
    ((repeat ((conv => whnf); first | refine brT ?_ | refine brF ?_)); conv => whnf)
    exact ⟨[.hs 0 ((rdS rs e ss (fitL rs e ss)).map Ty.own).length], by simp [tupOf], rfl, .inr ⟨[.old 5], ⟨rfl, rfl, trivial⟩, ⟨rfl, rfl, trivial⟩, rfl⟩⟩
end Go.Proofs.Ytpfipmjmblgjfaa

namespace Go.Proofs.Ytpfipmjmblgjfaa
open Go.Lg
set_option maxHeartbeats 6400000
set_option maxRecDepth 10000
set_option linter.unusedVariables false
set_option linter.unusedSimpArgs false


theorem reductsOf_v (rs : List Rul) (e : Int) (ss : List Pr) (hl : ss.length ≤ 8) (hr : rs.length ≤ 1048576) (hB : ∀ r ∈ rs, r.to.length + ss.length ≤ 2097152) :
    HSpec env.P 134 [.sl (rs.map Rul.lv), typLV e ss] [] (.hs 0 ((rdS rs e ss (fitL rs e ss)).map Ty.lv).length) [.arr 52 2 ((rdS rs e ss (fitL rs e ss)).map Ty.lv)] := by
  refine HSpec_of_codeR (E := env.x [179] 0) env_ok.x (fn := Try.f134) Try.func134 rfl (by kernel_rfl) Try.call134 _ _ _ _ ?_
  have hl' : ss.length ≤ Go.maxLen := by unfold Go.maxLen; omega
  have hr' : rs.length ≤ Go.maxLen := by unfold Go.maxLen; omega
  have hN : ∀ j, (rdS rs e ss ((fitL rs e ss).take j)).length ≤ 9437184 := fun j => by
    have a := rdS_len rs e ss ((fitL rs e ss).take j)
    have b := fitL_len rs e ss
    have c : ss.length * rs.length ≤ 8 * rs.length := Nat.mul_le_mul hl (Nat.le_refl _)
    rw [List.length_take] at a
    omega
  ((repeat ((conv => whnf); first | refine brT ?_ | refine brF ?_)); conv => whnf)
  refine ⟨[], _, _, _, _, fittings_h rs e ss, rfl, rfl, rfl, trivial, ?_⟩
  ((repeat ((conv => whnf); first | refine brT ?_ | refine brF ?_)); conv => whnf)
  refine rangeR_ruleS fitE (fitL rs e ss)
    (fun j => [.box (.sl (rs.map Rul.lv)), .box (typLV e ss), .box (.hs 5 ((rdS rs e ss ((fitL rs e ss).take j)).map Ty.lv).length), .dead, .dead, .arr 52 2 ((rdS rs e ss ((fitL rs e ss).take j)).map Ty.lv)]) (fun _ => True)
    [.box (.sl (rs.map Rul.lv)), .box (typLV e ss), .box (.hs 5 0), .box (.sl (rs.map Rul.lv)), .box (typLV e ss), .arr 52 2 []]
    (.nl [.box 2 [] false 52 2] [.old 0, .old 1, .old 2, .old 3, .old 4, .old 5] ⟨?_, ⟨rfl, rfl, rfl, rfl, rfl, rfl, rfl, rfl, rfl, rfl, rfl, rfl, trivial⟩, rfl⟩) rfl rfl (fun K h => h) (fittings_g rs e ss hl' hr') (by kernel_rfl) trivial 6 (fun _ => rfl) (fun _ _ => rfl) ?_ ?_
  · ((repeat ((conv => whnf); refine ⟨rfl, rfl, ?_⟩)); trivial)
  · intro j y hy _
    obtain ⟨i, k⟩ := y
    have hmem : (i, k) ∈ fitL rs e ss := List.mem_of_getElem? hy
    obtain ⟨hk, hle⟩ := fitL_le hmem
    simp only at hk hle
    have hBk := hB rs[k] (List.getElem_mem hk)
    have hrd : rdAt rs e ss (i, k) = ⟨e, replS rs[k] ss i⟩ := by simp [rdAt, hk]
    have hrep := replaced_f rs[k] e ss i hle hl' (repl_len hBk)
    have hgk : (rs.map Rul.lv)[k]? = some rs[k].lv := by simp [hk]
    have htk : (fitL rs e ss).take (j + 1) = (fitL rs e ss).take j ++ [(i, k)] := by rw [List.take_add_one, hy]; rfl
    have hs1 := rdS_snoc rs e ss ((fitL rs e ss).take j) (i, k)
    rw [← htk, hrd] at hs1
    have hbound := hN j
    generalize replS rs[k] ss i = T at hrep hs1
    generalize hR : rdS rs e ss ((fitL rs e ss).take j) = R at hs1 hbound
    show codeW _ _ (setPs _ [.int .i64 (i : Int), .int .i64 (k : Int)] _) _ _
    ((repeat ((conv => whnf); first | refine brT ?_ | refine brF ?_)); conv => whnf)
    simp only [hR]
    refine ⟨false, 0, 0, 0, [0, 1, 2, 3, 4, 5], (.alt 6 (.one 7 (.one 8 .done)) (.one 7 (.one 6 (.one 8 .done)))), by kernel_rfl, ?_⟩
    ((repeat ((conv => whnf); first | refine brT ?_ | refine brF ?_)); conv => whnf)
    refine ⟨k, rs[k].lv, rfl, hgk, rfl, ?_⟩
    ((repeat ((conv => whnf); first | refine brT ?_ | refine brF ?_)); conv => whnf)
    apply Exists.intro
    apply Exists.intro
    refine And.intro ?_ ?_
    · refine And.intro ?_ ?_
      · refine ⟨_, hrep, ?_⟩
        ((repeat ((conv => whnf); first | refine brT ?_ | refine brF ?_)); conv => whnf)
        refine Weak.idn ?_ ?_ rfl
        · ((repeat ((conv => whnf); refine ⟨rfl, ?_⟩)); trivial)
        · exact ⟨rfl, rfl, rfl, rfl, rfl, rfl, rfl, trivial⟩
      · ((repeat ((conv => whnf); first | refine brT ?_ | refine brF ?_)); conv => whnf)
        refine ⟨_, hrep, ?_⟩
        ((repeat ((conv => whnf); first | refine brT ?_ | refine brF ?_)); conv => whnf)
        refine .inr ⟨[.old 0, .old 1, .old 2, .old 3, .old 4, .old 5, .old 6], ?_, ⟨rfl, rfl, rfl, rfl, rfl, rfl, rfl, rfl, rfl, rfl, rfl, rfl, rfl, rfl, trivial⟩, rfl⟩
        ((repeat ((conv => whnf); refine ⟨rfl, rfl, ?_⟩)); trivial)
    ((repeat ((conv => whnf); first | refine brT ?_ | refine brF ?_)); conv => whnf)
    refine ⟨rfl, ?_⟩
    ((repeat ((conv => whnf); first | refine brT ?_ | refine brF ?_)); conv => whnf)
    refine ⟨_, containsTy_spec ⟨e, T⟩ R, ?_⟩
    rw [any_comm]
    ((repeat ((conv => whnf); first | refine brT ?_ | refine brF ?_)); conv => whnf)
    (refine ⟨fun h4 => ?_, fun h4 => ?_⟩ <;> rw [h4])
    · rw [notB_t] at h4
      have hs2 : addT R ⟨e, T⟩ = R ++ [⟨e, T⟩] := by unfold addT; rw [h4]
      rw [hs2] at hs1
      ((repeat ((conv => whnf); first | refine brT ?_ | refine brF ?_)); conv => whnf)
      have eL : R.map Ty.lv ++ [LV.st [.int .i64 e, .sl (T.map Pr.lv)]] = (R ++ [(⟨e, T⟩ : Ty)]).map Ty.lv := by rw [List.map_append]; rfl
      refine ⟨rfl, rfl, ?_, ?_, ?_⟩
      · simp; unfold Go.maxLen; omega
      · simp; omega
      rw [eL, ← hs1]
      ((repeat ((conv => whnf); first | refine brT ?_ | refine brF ?_)); conv => whnf)
      refine ⟨[.box (.sl (rs.map Rul.lv)), .box (typLV e ss), .box (.hs 5 ((rdS rs e ss ((fitL rs e ss).take (j + 1))).map Ty.lv).length), .dead, .dead, .arr 52 2 ((rdS rs e ss ((fitL rs e ss).take (j + 1))).map Ty.lv)],
        .inr ⟨[.old 0, .old 1, .old 2, .old 3, .old 4, .old 8], ?_, ⟨rfl, rfl, rfl, rfl, rfl, rfl, rfl, rfl, rfl, rfl, rfl, rfl, trivial⟩, rfl⟩, rfl, trivial⟩
      ((repeat ((conv => whnf); refine ⟨rfl, rfl, ?_⟩)); trivial)
    · rw [notB_f] at h4
      have hs2 : addT R ⟨e, T⟩ = R := by unfold addT; rw [h4]
      rw [hs2] at hs1
      ((repeat ((conv => whnf); first | refine brT ?_ | refine brF ?_)); conv => whnf)
      rw [hs1]
      refine ⟨[.box (.sl (rs.map Rul.lv)), .box (typLV e ss), .box (.hs 5 (R.map Ty.lv).length), .dead, .dead, .arr 52 2 (R.map Ty.lv)],
        .inr ⟨[.old 0, .old 1, .old 2, .old 3, .old 4, .old 5], ?_, ⟨rfl, rfl, rfl, rfl, rfl, rfl, rfl, rfl, rfl, rfl, rfl, rfl, trivial⟩, rfl⟩, rfl, trivial⟩
      ((repeat ((conv => whnf); refine ⟨rfl, rfl, ?_⟩)); trivial)
  · intro _
    rw [List.take_of_length_le (Nat.le_refl _)]
    ((repeat ((conv => whnf); first | refine brT ?_ | refine brF ?_)); conv => whnf)
    exact ⟨[.hs 0 ((rdS rs e ss (fitL rs e ss)).map Ty.lv).length], by simp [tupOf], rfl, .inr ⟨[.old 5], ⟨rfl, rfl, trivial⟩, ⟨rfl, rfl, trivial⟩, rfl⟩⟩
end Go.Proofs.Ytpfipmjmblgjfaa

namespace Go.Proofs.Ytpfipmjmblgjfaa
open Go.Lg
set_option maxHeartbeats 6400000
set_option maxRecDepth 10000
set_option linter.unusedVariables false
set_option linter.unusedSimpArgs false

theorem dms_rulO (rs : List Rul) : dms (rs.map rulO) = rs.map Rul.lv := by
  rw [dms_map, List.map_map]
  refine List.map_congr_left fun r _ => ?_
  simp [rulO, Rul.own, Rul.lv, dm, dms]
theorem szRu_le : ∀ {rs : List Rul} {l : Int}, (∀ r ∈ rs, r.OK) → 0 ≤ l → l ≤ 1048576 → ltI (szRu l rs) 0 = false → szRu l rs ≤ l
  | [], l, _, _, _, _ => by simp [szRu]
  | r :: rs, l, hr, h0, h1, h => by
    simp only [szRu] at h ⊢
    cases h2 : ltI (szR l r) 0 <;> rw [h2] at h <;> simp only at h ⊢
    · obtain ⟨k1, k2, k3⟩ := szR_B (hr r (by simp)) h0 h1 h2
      have := szRu_le (fun x hx => hr x (by simp [hx])) k2 (by omega) h
      omega
    · rw [ltI_f] at h; omega
theorem szRuS_le {rs : List Rul} {l : Int} (hl : rs.length ≤ Go.maxLen) (hr : ∀ r ∈ rs, r.OK) (h0 : 0 ≤ l) (h1 : l ≤ 1048576) (h : ltI (szRuS l rs) 0 = false) : 0 ≤ szRuS l rs ∧ szRuS l rs ≤ l := by
  unfold Go.maxLen at hl
  have hw : IntKind.i64.wrap (l - (rs.length : Int)) = l - rs.length := wrap64 (by omega) (by omega)
  refine ⟨by rw [ltI_f] at h; omega, ?_⟩
  unfold szRuS at h ⊢
  rw [hw] at h ⊢
  cases h2 : ltI (l - (rs.length : Int)) 0 <;> rw [h2] at h <;> simp only at h ⊢
  · rw [ltI_f] at h2
    have := szRu_le hr h2 (by omega) h
    omega
  · rw [ltI_f] at h; omega
theorem totR_le : ∀ {rs : List Rul} {l : Nat}, rs.length ≤ l → (∀ r ∈ rs, r.B) → totR rs ≤ l * 8388608
  | [], l, _, _ => by simp [totR]
  | r :: rs, 0, h, _ => by simp at h
  | r :: rs, l + 1, h, hB => by
    have := totR_le (rs := rs) (l := l) (by simpa using h) (fun x hx => hB x (by simp [hx]))
    obtain ⟨_, _, b3, b4⟩ := hB r (by simp)
    have e : totR (r :: rs) = costR r + totR rs := by simp [totR]
    rw [e]; unfold costR; omega

end Go.Proofs.Ytpfipmjmblgjfaa

namespace Go.Proofs.Ytpfipmjmblgjfaa
open Go.Lg
set_option maxHeartbeats 6400000
set_option maxRecDepth 10000
set_option linter.unusedVariables false
set_option linter.unusedSimpArgs false

theorem typB_len8 {e : Int} {ss : List Pr} (h : typB e ss = true) : ss.length ≤ 8 := by
  unfold typB at h
  simp only [Bool.and_eq_true, leI_t] at h
  omega
def rdV (rs : List Rul) (e : Int) (ss : List Pr) : List Ty := match rulesB rs && typB e ss with | true => rdS rs (egoT e ss) ss (fitL rs (egoT e ss) ss) | false => []
theorem rdS_B {rs : List Rul} {g : Int} {ss : List Pr} (hB : ∀ r ∈ rs, r.to.length + ss.length ≤ 2097152) (l : List (Nat × Nat)) : ∀ t ∈ rdS rs g ss l, t.ss.length ≤ 2097152 := by
  have hA : ∀ p, (rdAt rs g ss p).ss.length ≤ 2097152 := fun p => by
    unfold rdAt
    cases hq : rs[p.2]? with
    | none => simp
    | some r =>
      have := hB r (List.mem_of_getElem? hq)
      simp only [replS, List.length_append, List.length_take, List.length_drop]
      omega
  have : ∀ (l : List (Nat × Nat)) (acc : List Ty), (∀ t ∈ acc, t.ss.length ≤ 2097152) → ∀ t ∈ l.foldl (fun acc p => addT acc (rdAt rs g ss p)) acc, t.ss.length ≤ 2097152 := by
    intro l
    induction l with
    | nil => intro acc h; exact h
    | cons p l ih =>
      intro acc h
      refine ih _ ?_
      show ∀ t ∈ addT acc (rdAt rs g ss p), t.ss.length ≤ 2097152
      unfold addT
      split
      · exact h
      · intro t ht
        rcases List.mem_append.1 ht with ht | ht
        · exact h t ht
        · rw [List.mem_singleton.1 ht]; exact hA p
  exact this l [] (by simp)
theorem totT_B : ∀ {R : List Ty}, (∀ t ∈ R, t.ss.length ≤ 2097152) → totT R ≤ R.length * 4194305
  | [], _ => by simp [totT]
  | t :: R, h => by
    have h1 := totT_B (R := R) fun x hx => h x (List.mem_cons_of_mem _ hx)
    have h2 := h t (List.mem_cons_self ..)
    simp only [totT, List.map_cons, List.sum_cons, costT, List.length_cons] at h1 ⊢
    omega
theorem rdV_B {rs : List Rul} {e : Int} {ss : List Pr} (hr : rs.length ≤ 1048576) (hB : ∀ r ∈ rs, r.to.length + ss.length ≤ 2097152) : (rdV rs e ss).length ≤ 9437184 ∧ totT (rdV rs e ss) ≤ 9437184 * 4194305 := by
  unfold rdV
  split
  · rename_i h
    simp only [Bool.and_eq_true] at h
    have h8 := typB_len8 h.2
    have a := rdS_len rs (egoT e ss) ss (fitL rs (egoT e ss) ss)
    have b := fitL_len rs (egoT e ss) ss
    have c : ss.length * rs.length ≤ 8 * rs.length := Nat.mul_le_mul h8 (Nat.le_refl _)
    have d := totT_B (rdS_B (g := egoT e ss) hB (fitL rs (egoT e ss) ss))
    have f : (rdS rs (egoT e ss) ss (fitL rs (egoT e ss) ss)).length ≤ 9437184 := by omega
    exact ⟨f, Nat.le_trans d (Nat.mul_le_mul f (Nat.le_refl _))⟩
  · simp [totT]
theorem reducts_spec (rs : List Rul) (e : Int) (ss : List Pr) (hr : rs.length ≤ 1048576) (hB : ∀ r ∈ rs, r.to.length + ss.length ≤ 2097152) :
    HSpec env.P 62 [.sl (rs.map Rul.lv), typLV e ss] [] (.hs 0 ((rdV rs e ss).map Ty.lv).length) [.arr 52 2 ((rdV rs e ss).map Ty.lv)] := by
  refine HSpec_of_code (E := env.x [132] 0) env_ok.x (fn := Try.f62) Try.func62 rfl Try.call62 _ _ _ _ ?_
  ((repeat ((conv => whnf); first | refine brT ?_ | refine brF ?_)); conv => whnf)
  refine ⟨_, areRules_spec rs, ?_⟩
  ((repeat ((conv => whnf); first | refine brT ?_ | refine brF ?_)); conv => whnf)
  (refine ⟨fun h => ?_, fun h => ?_⟩ <;> rw [h])
  · rw [notB_t] at h
    have e1 : rdV rs e ss = [] := by unfold rdV; rw [h]; rfl
    rw [e1]
    ((repeat ((conv => whnf); first | refine brT ?_ | refine brF ?_)); conv => whnf)
    exact ⟨[.hs 0 0], by simp [tupOf], rfl, .nl [.tmp 0 [] false 52 2] [.old 1] ⟨⟨rfl, rfl, trivial⟩, ⟨rfl, rfl, trivial⟩, rfl⟩⟩
  rw [notB_f] at h
  ((repeat ((conv => whnf); first | refine brT ?_ | refine brF ?_)); conv => whnf)
  refine ⟨_, isType_spec e ss, ?_⟩
  ((repeat ((conv => whnf); first | refine brT ?_ | refine brF ?_)); conv => whnf)
  (refine ⟨fun h1 => ?_, fun h1 => ?_⟩ <;> rw [h1])
  · rw [notB_t] at h1
    have e1 : rdV rs e ss = [] := by unfold rdV; rw [h, h1]; rfl
    rw [e1]
    ((repeat ((conv => whnf); first | refine brT ?_ | refine brF ?_)); conv => whnf)
    exact ⟨[.hs 0 0], by simp [tupOf], rfl, .nl [.tmp 0 [] false 52 2] [.old 1] ⟨⟨rfl, rfl, trivial⟩, ⟨rfl, rfl, trivial⟩, rfl⟩⟩
  rw [notB_f] at h1
  have e1 : rdV rs e ss = rdS rs (egoT e ss) ss (fitL rs (egoT e ss) ss) := by unfold rdV; rw [h, h1]; rfl
  have h8 := typB_len8 h1
  have hh := l4Reducts_v rs e ss h8 hr hB
  ((repeat ((conv => whnf); first | refine brT ?_ | refine brF ?_)); conv => whnf)
  rw [← e1] at hh
  generalize rdV rs e ss = R at hh ⊢
  refine ⟨[], _, _, _, _, hh, rfl, rfl, rfl, trivial, ?_⟩
  ((repeat ((conv => whnf); first | refine brT ?_ | refine brF ?_)); conv => whnf)
  exact ⟨[.hs 0 (R.map Ty.lv).length], by simp [tupOf], rfl, .inr ⟨[.old 1], ⟨rfl, rfl, trivial⟩, ⟨rfl, rfl, trivial⟩, rfl⟩⟩
theorem reducts_impl (rs : List Rul) (e : Int) (ss : List Pr) (hr : rs.length ≤ 1048576) (hB : ∀ r ∈ rs, r.to.length + ss.length ≤ 2097152) :
    HSpec env.P 64 [.sl (rs.map Rul.lv), typLV e ss] [] (.hs 0 ((rdV rs e ss).map Ty.own).length) [.tree 52 2 ((rdV rs e ss).map Ty.own)] := by
  refine HSpec_of_code (E := env.x [134] 0) env_ok.x (fn := Try.f64) Try.func64 rfl Try.call64 _ _ _ _ ?_
  ((repeat ((conv => whnf); first | refine brT ?_ | refine brF ?_)); conv => whnf)
  refine ⟨_, areRules_impl rs, ?_⟩
  ((repeat ((conv => whnf); first | refine brT ?_ | refine brF ?_)); conv => whnf)
  (refine ⟨fun h => ?_, fun h => ?_⟩ <;> rw [h])
  · rw [notB_t] at h
    have e1 : rdV rs e ss = [] := by unfold rdV; rw [h]; rfl
    rw [e1]
    ((repeat ((conv => whnf); first | refine brT ?_ | refine brF ?_)); conv => whnf)
    exact ⟨[.hs 0 0], by simp [tupOf], rfl, .nl [.tmp 0 [] true 52 2] [.old 1] ⟨⟨rfl, rfl, trivial⟩, ⟨rfl, rfl, trivial⟩, rfl⟩⟩
  rw [notB_f] at h
  ((repeat ((conv => whnf); first | refine brT ?_ | refine brF ?_)); conv => whnf)
  refine ⟨_, isType_impl e ss, ?_⟩
  ((repeat ((conv => whnf); first | refine brT ?_ | refine brF ?_)); conv => whnf)
  (refine ⟨fun h1 => ?_, fun h1 => ?_⟩ <;> rw [h1])
  · rw [notB_t] at h1
    have e1 : rdV rs e ss = [] := by unfold rdV; rw [h, h1]; rfl
    rw [e1]
    ((repeat ((conv => whnf); first | refine brT ?_ | refine brF ?_)); conv => whnf)
    exact ⟨[.hs 0 0], by simp [tupOf], rfl, .nl [.tmp 0 [] true 52 2] [.old 1] ⟨⟨rfl, rfl, trivial⟩, ⟨rfl, rfl, trivial⟩, rfl⟩⟩
  rw [notB_f] at h1
  have e1 : rdV rs e ss = rdS rs (egoT e ss) ss (fitL rs (egoT e ss) ss) := by unfold rdV; rw [h, h1]; rfl
  have h8 := typB_len8 h1
  have hh := reductsOf_h rs (egoT e ss) ss h8 hr hB
  have hego : egoR e ss = egoT e ss := by unfold egoR; rw [h1]
  ((repeat ((conv => whnf); first | refine brT ?_ | refine brF ?_)); conv => whnf)
  refine ⟨_, withSex_spec e ss, ?_⟩
  rw [hego]
  ((repeat ((conv => whnf); first | refine brT ?_ | refine brF ?_)); conv => whnf)
  rw [← e1] at hh
  generalize rdV rs e ss = R at hh ⊢
  refine ⟨[], _, _, _, _, hh, rfl, rfl, rfl, trivial, ?_⟩
  ((repeat ((conv => whnf); first | refine brT ?_ | refine brF ?_)); conv => whnf)
  exact ⟨[.hs 0 (R.map Ty.own).length], by simp [tupOf], rfl, .inr ⟨[.old 1], ⟨rfl, rfl, trivial⟩, ⟨rfl, rfl, trivial⟩, rfl⟩⟩
theorem reducts_implv (rs : List Rul) (e : Int) (ss : List Pr) (hr : rs.length ≤ 1048576) (hB : ∀ r ∈ rs, r.to.length + ss.length ≤ 2097152) :
    HSpec env.P 64 [.sl (rs.map Rul.lv), typLV e ss] [] (.hs 0 ((rdV rs e ss).map Ty.lv).length) [.arr 52 2 ((rdV rs e ss).map Ty.lv)] := by
  refine HSpec_of_code (E := env.x [134] 0) env_ok.x (fn := Try.f64) Try.func64 rfl Try.call64 _ _ _ _ ?_
  ((repeat ((conv => whnf); first | refine brT ?_ | refine brF ?_)); conv => whnf)
  refine ⟨_, areRules_impl rs, ?_⟩
  ((repeat ((conv => whnf); first | refine brT ?_ | refine brF ?_)); conv => whnf)
  (refine ⟨fun h => ?_, fun h => ?_⟩ <;> rw [h])
  · rw [notB_t] at h
    have e1 : rdV rs e ss = [] := by unfold rdV; rw [h]; rfl
    rw [e1]
    ((repeat ((conv => whnf); first | refine brT ?_ | refine brF ?_)); conv => whnf)
    exact ⟨[.hs 0 0], by simp [tupOf], rfl, .nl [.tmp 0 [] false 52 2] [.old 1] ⟨⟨rfl, rfl, trivial⟩, ⟨rfl, rfl, trivial⟩, rfl⟩⟩
  rw [notB_f] at h
  ((repeat ((conv => whnf); first | refine brT ?_ | refine brF ?_)); conv => whnf)
  refine ⟨_, isType_impl e ss, ?_⟩
  ((repeat ((conv => whnf); first | refine brT ?_ | refine brF ?_)); conv => whnf)
  (refine ⟨fun h1 => ?_, fun h1 => ?_⟩ <;> rw [h1])
  · rw [notB_t] at h1
    have e1 : rdV rs e ss = [] := by unfold rdV; rw [h, h1]; rfl
    rw [e1]
    ((repeat ((conv => whnf); first | refine brT ?_ | refine brF ?_)); conv => whnf)
    exact ⟨[.hs 0 0], by simp [tupOf], rfl, .nl [.tmp 0 [] false 52 2] [.old 1] ⟨⟨rfl, rfl, trivial⟩, ⟨rfl, rfl, trivial⟩, rfl⟩⟩
  rw [notB_f] at h1
  have e1 : rdV rs e ss = rdS rs (egoT e ss) ss (fitL rs (egoT e ss) ss) := by unfold rdV; rw [h, h1]; rfl
  have h8 := typB_len8 h1
  have hh := reductsOf_v rs (egoT e ss) ss h8 hr hB
  have hego : egoR e ss = egoT e ss := by unfold egoR; rw [h1]
  ((repeat ((conv => whnf); first | refine brT ?_ | refine brF ?_)); conv => whnf)
  refine ⟨_, withSex_spec e ss, ?_⟩
  rw [hego]
  ((repeat ((conv => whnf); first | refine brT ?_ | refine brF ?_)); conv => whnf)
  rw [← e1] at hh
  generalize rdV rs e ss = R at hh ⊢
  refine ⟨[], _, _, _, _, hh, rfl, rfl, rfl, trivial, ?_⟩
  ((repeat ((conv => whnf); first | refine brT ?_ | refine brF ?_)); conv => whnf)
  exact ⟨[.hs 0 (R.map Ty.lv).length], by simp [tupOf], rfl, .inr ⟨[.old 1], ⟨rfl, rfl, trivial⟩, ⟨rfl, rfl, trivial⟩, rfl⟩⟩
theorem tys_f {f : FuncId} {args : List LV} {R : List Ty} (h : HSpec env.P f args [] (.hs 0 (R.map Ty.lv).length) [.arr 52 2 (R.map Ty.lv)]) : FSpec env.P f args (.own 52 2 (R.map Ty.lv)) :=
  FSpec_of_HSpec h (by simp only [exW]; exact ⟨rfl, rfl, rfl, rfl, by simp⟩)
theorem flatTs_tys : ∀ R : List Ty, flatTs (R.map Ty.own) = true
  | [] => rfl
  | t :: R => by
    simp only [List.map_cons, flatTs, Bool.and_eq_true]
    refine ⟨?_, flatTs_tys R⟩
    simp only [Ty.own, flatT1, flatTs, flatB, flats_prs, Bool.and_self]
theorem law_reductsOf (rs : List Rul) (e : Int) (ss : List Pr) (hr : rs.length ≤ Go.maxLen ∧ ∀ r ∈ rs, r.OK) (hl : ss.length ≤ Go.maxLen) : FSpec env.P 15 [.sl (rs.map Rul.lv), typLV e ss] (.bool true) := by
  refine FSpec_of_code (E := env.x [63, 51, 64, 67, 54, 68] 0) env_ok.x (fn := Try.f15) Try.func15 rfl Try.call15 _ _ ?_
  ((repeat ((conv => whnf); first | refine brT ?_ | refine brF ?_)); conv => whnf)
  refine ⟨_, szRuleS_spec rs 1048576, ?_⟩
  ((repeat ((conv => whnf); first | refine brT ?_ | refine brF ?_)); conv => whnf)
  (refine ⟨fun h => ?_, fun h => ?_⟩ <;> rw [h])
  · ((repeat ((conv => whnf); first | refine brT ?_ | refine brF ?_)); conv => whnf)
    exact fin rfl
  obtain ⟨hn, hB⟩ := szRuS_B hr.1 hr.2 (by omega) (by omega) h
  obtain ⟨z0, z1⟩ := szRuS_le hr.1 hr.2 (by omega) (by omega) h
  ((repeat ((conv => whnf); first | refine brT ?_ | refine brF ?_)); conv => whnf)
  refine ⟨_, szKinType_spec e ss (szRuS 1048576 rs), ?_⟩
  by_cases h2 : 0 ≤ szT (szRuS 1048576 rs) ss.length
  rotate_left
  · ((repeat ((conv => whnf); first | refine brT ?_ | refine brF ?_)); conv => whnf)
    rw [show ltI (szT (szRuS 1048576 rs) ss.length) 0 = true by rw [ltI_t]; omega]
    ((repeat ((conv => whnf); first | refine brT ?_ | refine brF ?_)); conv => whnf)
    exact fin rfl
  obtain ⟨q1, q2, hf, hb, -⟩ := szT_ok z0 z1 hl h2
  have hBB : ∀ r ∈ rs, r.to.length + ss.length ≤ 2097152 := fun r hr' => by have := (hB r hr').2.2.2; omega
  have htot := totR_le hn hB
  have hS := tys_f (reducts_spec rs e ss hn hBB)
  have hI := reducts_impl rs e ss hn hBB
  have hF := tys_f (reducts_implv rs e ss hn hBB)
  obtain ⟨b1, b2⟩ := rdV_B (e := e) hn hBB
  generalize rdV rs e ss = R at hS hI hF b1 b2
  have hm : (R.map Ty.own).length = ((markTys 1 R R.length).map Ty.own).length := by simp [markTys_len]
  ((repeat ((conv => whnf); first | refine brT ?_ | refine brF ?_)); conv => whnf)
  rw [hf]
  ((repeat ((conv => whnf); first | refine brT ?_ | refine brF ?_)); conv => whnf)
  refine ⟨true, by kernel_rfl, ?_⟩
  ((repeat ((conv => whnf); first | refine brT ?_ | refine brF ?_)); conv => whnf)
  refine ⟨_, toRuleS_f rs hn hB, ?_⟩
  ((repeat ((conv => whnf); first | refine brT ?_ | refine brF ?_)); conv => whnf)
  refine ⟨_, toKinType_f e ss hb, ?_⟩
  ((repeat ((conv => whnf); first | refine brT ?_ | refine brF ?_)); conv => whnf)
  refine ⟨_, hS, ?_⟩
  ((repeat ((conv => whnf); first | refine brT ?_ | refine brF ?_)); conv => whnf)
  refine ⟨[], _, _, _, _, toRuleS_t rs hn hB, rfl, rfl, rfl, trivial, ?_⟩
  ((repeat ((conv => whnf); first | refine brT ?_ | refine brF ?_)); conv => whnf)
  refine ⟨[], _, _, _, _, toKinType_h e ss hb, rfl, rfl, rfl, trivial, ?_⟩
  ((repeat ((conv => whnf); first | refine brT ?_ | refine brF ?_)); conv => whnf)
  refine ⟨[], _, _, _, _, hI, rfl, ?_⟩
  ((repeat ((conv => whnf); first | refine brT ?_ | refine brF ?_)); conv => whnf)
  refine ⟨rfl, _, dms_rulO rs, ?_⟩
  ((repeat ((conv => whnf); first | refine brT ?_ | refine brF ?_)); conv => whnf)
  refine ⟨rfl, ?_⟩
  ((repeat ((conv => whnf); first | refine brT ?_ | refine brF ?_)); conv => whnf)
  refine ⟨rfl, rfl, ⟨rfl, flatTs_tys R, trivial⟩, ?_⟩
  ((repeat ((conv => whnf); first | refine brT ?_ | refine brF ?_)); conv => whnf)
  refine ⟨rfl, _, dms_ty R, ?_⟩
  ((repeat ((conv => whnf); first | refine brT ?_ | refine brF ?_)); conv => whnf)
  refine ⟨_, eqTyS_spec R R, ?_⟩
  rw [eqTyS_refl]
  ((repeat ((conv => whnf); first | refine brT ?_ | refine brF ?_)); conv => whnf)
  rw [show notB true = false by simp [notB]]
  ((repeat ((conv => whnf); first | refine brT ?_ | refine brF ?_)); conv => whnf)
  refine ⟨[], _, _, _, _, toRuleS_h rs hn hB, rfl, rfl, rfl, trivial, ?_⟩
  ((repeat ((conv => whnf); first | refine brT ?_ | refine brF ?_)); conv => whnf)
  refine ⟨rfl, _, dms_rulO rs, ?_⟩
  ((repeat ((conv => whnf); first | refine brT ?_ | refine brF ?_)); conv => whnf)
  refine ⟨rfl, ?_⟩
  ((repeat ((conv => whnf); first | refine brT ?_ | refine brF ?_)); conv => whnf)
  refine ⟨_, eqRuleS_spec rs rs, ?_⟩
  rw [eqRuls_refl]
  ((repeat ((conv => whnf); first | refine brT ?_ | refine brF ?_)); conv => whnf)
  rw [show notB true = false by simp [notB]]
  ((repeat ((conv => whnf); first | refine brT ?_ | refine brF ?_)); conv => whnf)
  refine ⟨true, by kernel_rfl, ?_⟩
  ((repeat ((conv => whnf); first | refine brT ?_ | refine brF ?_)); conv => whnf)
  refine ⟨_, toKinType_f e ss hb, ?_⟩
  ((repeat ((conv => whnf); first | refine brT ?_ | refine brF ?_)); conv => whnf)
  refine ⟨rfl, ?_⟩
  ((repeat ((conv => whnf); first | refine brT ?_ | refine brF ?_)); conv => whnf)
  refine ⟨_, eqKinType_spec e ss e ss, ?_⟩
  rw [eqTyp_refl]
  ((repeat ((conv => whnf); first | refine brT ?_ | refine brF ?_)); conv => whnf)
  rw [show notB true = false by simp [notB]]
  ((repeat ((conv => whnf); first | refine brT ?_ | refine brF ?_)); conv => whnf)
  refine ⟨[1], _, _, _, _, markRuleS_spec rs _ rfl 1 (by omega), rfl, rfl, rfl, trivial, ?_⟩
  ((repeat ((conv => whnf); first | refine brT ?_ | refine brF ?_)); conv => whnf)
  refine ⟨[2], _, _, _, _, markKinType_spec e ss _ rfl (1 + totR rs) (by omega), rfl, rfl, rfl, trivial, ?_⟩
  ((repeat ((conv => whnf); first | refine brT ?_ | refine brF ?_)); conv => whnf)
  rw [show ltI ((1 + totR rs + 2 * ss.length : Nat) : Int) 0 = false by rw [ltI_f]; omega]
  ((repeat ((conv => whnf); first | refine brT ?_ | refine brF ?_)); conv => whnf)
  refine ⟨rfl, _, dms_ty R, ?_⟩
  ((repeat ((conv => whnf); first | refine brT ?_ | refine brF ?_)); conv => whnf)
  refine ⟨_, eqTyS_spec R R, ?_⟩
  rw [eqTyS_refl]
  ((repeat ((conv => whnf); first | refine brT ?_ | refine brF ?_)); conv => whnf)
  rw [show notB true = false by simp [notB]]
  ((repeat ((conv => whnf); first | refine brT ?_ | refine brF ?_)); conv => whnf)
  refine ⟨[4], _, _, _, _, markTyS_spec R _ rfl 1 (by omega), rfl, rfl, rfl, trivial, ?_⟩
  ((repeat ((conv => whnf); first | refine brT ?_ | refine brF ?_)); conv => whnf)
  refine ⟨hm, _, dms_ty (markTys 1 R R.length), ?_⟩
  ((repeat ((conv => whnf); first | refine brT ?_ | refine brF ?_)); conv => whnf)
  refine ⟨_, heldTyS_spec R 1 (by omega), ?_⟩
  ((repeat ((conv => whnf); first | refine brT ?_ | refine brF ?_)); conv => whnf)
  rw [show ltI ((1 + totT R : Nat) : Int) 0 = false by rw [ltI_f]; omega]
  ((repeat ((conv => whnf); first | refine brT ?_ | refine brF ?_)); conv => whnf)
  rw [eqI_refl, show notB true = false by simp [notB]]
  ((repeat ((conv => whnf); first | refine brT ?_ | refine brF ?_)); conv => whnf)
  refine ⟨true, by kernel_rfl, ?_⟩
  ((repeat ((conv => whnf); first | refine brT ?_ | refine brF ?_)); conv => whnf)
  refine ⟨_, toRuleS_f rs hn hB, ?_⟩
  ((repeat ((conv => whnf); first | refine brT ?_ | refine brF ?_)); conv => whnf)
  refine ⟨_, toKinType_f e ss hb, ?_⟩
  ((repeat ((conv => whnf); first | refine brT ?_ | refine brF ?_)); conv => whnf)
  refine ⟨_, hF, ?_⟩
  ((repeat ((conv => whnf); first | refine brT ?_ | refine brF ?_)); conv => whnf)
  refine ⟨_, eqTyS_spec R R, ?_⟩
  rw [eqTyS_refl]
  ((repeat ((conv => whnf); first | refine brT ?_ | refine brF ?_)); conv => whnf)
  rw [show notB true = false by simp [notB]]
  ((repeat ((conv => whnf); first | refine brT ?_ | refine brF ?_)); conv => whnf)
  refine ⟨hm, _, dms_ty (markTys 1 R R.length), ?_⟩
  ((repeat ((conv => whnf); first | refine brT ?_ | refine brF ?_)); conv => whnf)
  refine ⟨_, heldTyS_spec R 1 (by omega), ?_⟩
  ((repeat ((conv => whnf); first | refine brT ?_ | refine brF ?_)); conv => whnf)
  rw [show ltI ((1 + totT R : Nat) : Int) 0 = false by rw [ltI_f]; omega]
  ((repeat ((conv => whnf); first | refine brT ?_ | refine brF ?_)); conv => whnf)
  rw [eqI_refl, show notB true = false by simp [notB]]
  ((repeat ((conv => whnf); first | refine brT ?_ | refine brF ?_)); conv => whnf)
  exact fin rfl
end Go.Proofs.Ytpfipmjmblgjfaa
