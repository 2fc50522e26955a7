/- Contracts of functions of the program and of its model, told over readings. -/
import Derived.Test.YtgkjafmmekjjlaaGreatCWGF
import Derived.Test.YtgkjafmmekjjlaaGreatCLgCU
import Derived.Test.YtgkjafmmekjjlaaGreatCWGD
set_option maxHeartbeats 3200000
set_option maxRecDepth 10000
set_option linter.unusedVariables false
set_option linter.unusedSimpArgs false
set_option linter.unusedSectionVars false
namespace Go.Proofs.YtgkjafmmekjjlaaGreat
open Go.Lg Go.Pm
theorem indexMem (F : Nat) (y z : LV) (q : Int → Bool) (xs : List Int) (hF : ∀ x ∈ xs, FSpec env.P F [.int .i64 x, .ref y, .ref z] (.bool (q x))) :
    FSpec env.P 184 [rowSl xs, .clos F [.ref y, .ref z]] (.int .i64 (idxFrom q 0 xs)) := by
  refine FSpec_of_code env_ok (fn := Tryz.f184) Tryz.func184 rfl Tryz.call184 _ _ ?_
  ((repeat ((conv => whnf); first | refine brT ?_ | refine brF ?_)); conv => whnf)
  intro hp
  have hp' : xs.length ≤ Go.maxLen := by simpa using hp
  ((repeat ((conv => whnf); first | refine brT ?_ | refine brF ?_)); conv => whnf)
  refine loop_rule (α := Nat) (fun k => [(8, .int .i64 (k : Int))]) (fun k => []) (fun k => xs.length - k) (fun k => k ≤ xs.length ∧ idxFrom q k (xs.drop k) = idxFrom q 0 xs) 0 ⟨Nat.zero_le _, by simp⟩ ?_ ?_
  · refine ⟨?_, trivial, rfl, rfl⟩
    ((repeat ((conv => whnf); refine ⟨rfl, ?_⟩)); trivial)
  rintro k ⟨hk, hf⟩
  ((repeat ((conv => whnf); first | refine brT ?_ | refine brF ?_)); conv => whnf)
  (refine ⟨fun h1 => ?_, fun h1 => ?_⟩ <;> rw [h1])
  · have hlt : k < xs.length := by rw [ltI_t] at h1; simp at h1; omega
    rw [List.drop_eq_getElem_cons hlt] at hf
    simp only [idxFrom] at hf
    ((repeat ((conv => whnf); first | refine brT ?_ | refine brF ?_)); conv => whnf)
    refine ⟨k, intLV xs[k], rfl, by simp [hlt], rfl, ?_⟩
    ((repeat ((conv => whnf); first | refine brT ?_ | refine brF ?_)); conv => whnf)
    refine ⟨_, hF xs[k] (List.getElem_mem hlt), ?_⟩
    ((repeat ((conv => whnf); first | refine brT ?_ | refine brF ?_)); conv => whnf)
    (refine ⟨fun h2 => ?_, fun h2 => ?_⟩ <;> rw [h2])
    · rw [h2] at hf
      ((repeat ((conv => whnf); first | refine brT ?_ | refine brF ?_)); conv => whnf)
      exact ⟨rfl, by rw [← hf], List.nodup_nil⟩
    · rw [h2] at hf
      ((repeat ((conv => whnf); first | refine brT ?_ | refine brF ?_)); conv => whnf)
      refine round_end (k + 1) ⟨hlt, hf⟩ (by omega) ⟨?_, trivial, rfl, rfl⟩
      have e := step_i hlt hp'
      ((repeat ((conv => whnf); first | refine ⟨e, ?_⟩ | refine ⟨rfl, ?_⟩)); trivial)
  · have h3 : xs.length ≤ k := by rw [ltI_f] at h1; simp at h1; omega
    rw [List.drop_eq_nil_of_le h3] at hf
    ((repeat ((conv => whnf); first | refine brT ?_ | refine brF ?_)); conv => whnf)
    exact ⟨rfl, by rw [← hf]; rfl, List.nodup_nil⟩
theorem containsMem (F : Nat) (y z : LV) (q : Int → Bool) (xs : List Int) (hF : ∀ x ∈ xs, FSpec env.P F [.int .i64 x, .ref y, .ref z] (.bool (q x))) :
    FSpec env.P 176 [rowSl xs, .clos F [.ref y, .ref z]] (.bool (xs.any q)) := by
  refine FSpec_of_code env_ok (fn := Tryz.f176) Tryz.func176 rfl Tryz.call176 _ _ ?_
  ((repeat ((conv => whnf); first | refine brT ?_ | refine brF ?_)); conv => whnf)
  refine ⟨_, indexMem F y z q xs hF, ?_⟩
  ((repeat ((conv => whnf); first | refine brT ?_ | refine brF ?_)); conv => whnf)
  exact fin (idxFrom_ge _ _ _)
def keepY (y : Int) (u : Uni) : Bool := leI u.since y
def yesU (_ : Uni) : Bool := true
theorem keepY_spec (y : Int) (u : Uni) : FSpec env.P 175 [u.lv, .ref (.int .i64 y)] (.bool (keepY y u)) := by
  refine FSpec_of_code env_ok (fn := Tryz.f175) Tryz.func175 rfl Tryz.call175 _ _ ?_
  ((repeat ((conv => whnf); first | refine brT ?_ | refine brF ?_)); conv => whnf)
  exact fin rfl
theorem yesU_spec (u : Uni) : FSpec env.P 160 [u.lv] (.bool (yesU u)) := by
  refine FSpec_of_code env_ok (fn := Tryz.f160) Tryz.func160 rfl Tryz.call160 _ _ ?_
  ((repeat ((conv => whnf); first | refine brT ?_ | refine brF ?_)); conv => whnf)
  exact fin rfl
theorem others_in {ps : List Per} {us : List Uni} (hf : famOk ps us = true) (keep : Uni → Bool) (p : Int) : ∀ x ∈ othersTo keep p us us.length, hasP ps us x = true := by
  intro x hx
  unfold othersTo at hx
  rw [List.take_length, List.mem_flatMap] at hx
  obtain ⟨u, hu, hx⟩ := hx
  obtain ⟨k, hk, rfl⟩ := List.mem_iff_getElem.1 hu
  obtain ⟨⟨m0, ml, w0, wl⟩, _⟩ := uni_of hf hk
  have hv : x = us[k].husband ∨ x = us[k].wife := by
    unfold otherL at hx
    repeat' split at hx
    all_goals first
      | (simp at hx; done)
      | (simp at hx; exact .inr hx)
      | (simp at hx; exact .inl hx)
  have fin2 : ∀ z : Int, 0 ≤ z → z.toNat < ps.length → hasP ps us z = true := fun z z0 zl => by
    unfold hasP
    simp only [Bool.and_eq_true, leI_t, ltI_t]
    exact ⟨z0, by omega, hf⟩
  rcases hv with rfl | rfl
  · exact fin2 _ m0 ml
  · exact fin2 _ w0 wl
def kinQ (l : Lw) (ps : List Per) (us : List Uni) (q x : Int) : Bool := notB (eqI x q) && withinB l.affinity (linksL ps us x q)
theorem kin2_spec (l : Lw) (ps : List Per) (us : List Uni) (F M : List Int) (q x : Int) (h : (hasP ps us x && hasP ps us q) = true) :
    FSpec env.P 177 [.int .i64 x, .ref (.int .i64 q), .ref (cLV l ps us F M)] (.bool (kinQ l ps us q x)) := by
  have h1 := areWithin_spec l ps us F M l.affinity x q h
  unfold kinQ
  generalize linksL ps us x q = L at h1 ⊢
  obtain ⟨d, c, aa, g, w, hh, p, m⟩ := l
  generalize hW : withinB _ L = W at h1 ⊢
  unfold cLV at h1 ⊢
  unfold upL at h1 ⊢
  refine FSpec_of_code env_ok (fn := Tryz.f177) Tryz.func177 rfl Tryz.call177 _ _ ?_
  ((repeat ((conv => whnf); first | refine brT ?_ | refine brF ?_)); conv => whnf)
  (refine ⟨fun g0 => ?_, fun g0 => ?_⟩ <;> rw [g0])
  · ((repeat ((conv => whnf); first | refine brT ?_ | refine brF ?_)); conv => whnf)
    refine ⟨_, h1, ?_⟩
    ((repeat ((conv => whnf); first | refine brT ?_ | refine brF ?_)); conv => whnf)
    exact fin rfl
  · ((repeat ((conv => whnf); first | refine brT ?_ | refine brF ?_)); conv => whnf)
    exact fin rfl
def affL (l : Lw) (ps : List Per) (us : List Uni) (y : Int) (p q : Int) : Bool := (othersTo (keepY y) p us us.length).any (kinQ l ps us q)
theorem marriedKin_spec (l : Lw) (ps : List Per) (us : List Uni) (F M : List Int) (y p q : Int) (hf : famOk ps us = true) (hq : hasP ps us q = true) :
    FSpec env.P 158 [cLV l ps us F M, .int .i64 p, .int .i64 q, .int .i64 y] (.bool (affL l ps us y p q)) := by
  have h1 := ints_f (partnersIn1_h (keepY y) ps us p 175 (.int .i64 y) (famOk_parts hf).2.1 (fun k hk => keepY_spec y us[k]))
  have h2 := containsMem 177 (.int .i64 q) (cLV l ps us F M) (kinQ l ps us q) (othersTo (keepY y) p us us.length) (fun x hx => kin2_spec l ps us F M q x (by rw [others_in hf (keepY y) p x hx, hq]; rfl))
  unfold affL
  generalize othersTo (keepY y) p us us.length = R at h1 h2 ⊢
  generalize R.any (kinQ l ps us q) = B at h2 ⊢
  obtain ⟨d, c, aa, g, w, hh, pp, m⟩ := l
  unfold cLV at h2 ⊢
  unfold upL at h2 ⊢
  refine FSpec_of_code env_ok (fn := Tryz.f158) Tryz.func158 rfl Tryz.call158 _ _ ?_
  ((repeat ((conv => whnf); first | refine brT ?_ | refine brF ?_)); conv => whnf)
  refine ⟨_, h1, ?_⟩
  rw [show flatT (rowOw R) = true from flat_ints R]
  ((repeat ((conv => whnf); first | refine brT ?_ | refine brF ?_)); conv => whnf)
  refine ⟨_, h2, ?_⟩
  ((repeat ((conv => whnf); first | refine brT ?_ | refine brF ?_)); conv => whnf)
  exact fin rfl
theorem affine_spec (l : Lw) (ps : List Per) (us : List Uni) (F M : List Int) (a b : Nat) (y : Int) (hf : famOk ps us = true) (ha : hasP ps us a = true) (hb : hasP ps us b = true) :
    FSpec env.P 130 [cLV l ps us F M, mLV a b y] (.bool (affL l ps us y a b || affL l ps us y b a)) := by
  have h1 := marriedKin_spec l ps us F M y a b hf hb
  have h2 := marriedKin_spec l ps us F M y b a hf ha
  generalize affL l ps us y a b = A at h1 ⊢
  generalize affL l ps us y b a = B at h2 ⊢
  obtain ⟨d, c, aa, g, w, hh, p, m⟩ := l
  unfold cLV at h1 h2 ⊢
  unfold upL at h1 h2 ⊢
  refine FSpec_of_code env_ok (fn := Tryz.f130) Tryz.func130 rfl Tryz.call130 _ _ ?_
  ((repeat ((conv => whnf); first | refine brT ?_ | refine brF ?_)); conv => whnf)
  refine ⟨_, h1, ?_⟩
  ((repeat ((conv => whnf); first | refine brT ?_ | refine brF ?_)); conv => whnf)
  cases A
  · ((repeat ((conv => whnf); first | refine brT ?_ | refine brF ?_)); conv => whnf)
    refine ⟨_, h2, ?_⟩
    ((repeat ((conv => whnf); first | refine brT ?_ | refine brF ?_)); conv => whnf)
    exact fin rfl
  · ((repeat ((conv => whnf); first | refine brT ?_ | refine brF ?_)); conv => whnf)
    exact fin rfl
theorem index1_spec (l : List Int) (x : Int) : FSpec env.P 178 [.sl (l.map intLV), .int .i64 x] (.int .i64 (idxFrom (fun y => eqI x y) 0 l)) := by
  refine FSpec_of_code env_ok (fn := Tryz.f178) Tryz.func178 rfl Tryz.call178 _ _ ?_
  have hX : (l.map intLV).length = l.length := List.length_map ..
  ((repeat ((conv => whnf); first | refine brT ?_ | refine brF ?_)); conv => whnf)
  intro hn
  rw [hX] at hn
  ((repeat ((conv => whnf); first | refine brT ?_ | refine brF ?_)); conv => whnf)
  rw [hX]
  refine loop_rule (α := Nat) (fun k => [(8, .int .i64 (k : Int))]) (fun _ => []) (fun k => l.length - k) (fun k => k ≤ l.length ∧ idxFrom (fun y => eqI x y) k (l.drop k) = idxFrom (fun y => eqI x y) 0 l) 0 ⟨Nat.zero_le _, by simp⟩ ?_ ?_
  · refine ⟨?_, trivial, rfl, rfl⟩
    ((repeat ((conv => whnf); refine ⟨rfl, ?_⟩)); trivial)
  rintro k ⟨hk, hf⟩
  ((repeat ((conv => whnf); first | refine brT ?_ | refine brF ?_)); conv => whnf)
  (refine ⟨fun h1 => ?_, fun h1 => ?_⟩ <;> rw [h1])
  · have hlt : k < l.length := by rw [ltI_t] at h1; omega
    have e := step_i hlt hn
    rw [List.drop_eq_getElem_cons hlt] at hf
    simp only [idxFrom] at hf
    have hg : (l.map intLV)[k]? = some (intLV l[k]) := by rw [List.getElem?_map, List.getElem?_eq_getElem hlt]; rfl
    generalize l[k] = y at hf hg
    ((repeat ((conv => whnf); first | refine brT ?_ | refine brF ?_)); conv => whnf)
    refine ⟨k, intLV y, rfl, hg, rfl, ?_⟩
    ((repeat ((conv => whnf); first | refine brT ?_ | refine brF ?_)); conv => whnf)
    (refine ⟨fun h2 => ?_, fun h2 => ?_⟩ <;> rw [h2])
    · rw [h2] at hf
      ((repeat ((conv => whnf); first | refine brT ?_ | refine brF ?_)); conv => whnf)
      exact ⟨rfl, by rw [← hf], List.nodup_nil⟩
    · rw [h2] at hf
      ((repeat ((conv => whnf); first | refine brT ?_ | refine brF ?_)); conv => whnf)
      refine round_end (k + 1) ⟨hlt, hf⟩ (by omega) ⟨?_, trivial, rfl, rfl⟩
      ((repeat ((conv => whnf); first | refine ⟨e, ?_⟩ | refine ⟨rfl, ?_⟩)); trivial)
  · have h3 : l.length ≤ k := by rw [ltI_f] at h1; omega
    rw [List.drop_eq_nil_of_le h3] at hf
    ((repeat ((conv => whnf); first | refine brT ?_ | refine brF ?_)); conv => whnf)
    exact ⟨rfl, by rw [← hf]; rfl, List.nodup_nil⟩
theorem contains1_spec (l : List Int) (x : Int) : FSpec env.P 161 [.sl (l.map intLV), .int .i64 x] (.bool (l.any fun y => eqI x y)) := by
  refine FSpec_of_code env_ok (fn := Tryz.f161) Tryz.func161 rfl Tryz.call161 _ _ ?_
  ((repeat ((conv => whnf); first | refine brT ?_ | refine brF ?_)); conv => whnf)
  refine ⟨_, index1_spec l x, ?_⟩
  ((repeat ((conv => whnf); first | refine brT ?_ | refine brF ?_)); conv => whnf)
  exact fin (idxFrom_ge _ _ _)
theorem isUnion_spec (l : Lw) (ps : List Per) (us : List Uni) (F M : List Int) (a b : Nat) (y : Int) (hf : famOk ps us = true) :
    FSpec env.P 131 [cLV l ps us F M, mLV a b y] (.bool ((othersTo yesU a us us.length).any fun z => eqI (b : Int) z)) := by
  have h1 := ints_f (partnersIn0_h yesU ps us (a : Int) 160 (famOk_parts hf).2.1 (fun k hk => yesU_spec us[k]))
  generalize othersTo yesU a us us.length = R at h1 ⊢
  have h2 := contains1_spec R (b : Int)
  generalize (R.any fun z => eqI (b : Int) z) = B at h2 ⊢
  obtain ⟨d, c, aa, g, w, hh, pp, m⟩ := l
  unfold cLV upL
  refine FSpec_of_code env_ok (fn := Tryz.f131) Tryz.func131 rfl Tryz.call131 _ _ ?_
  ((repeat ((conv => whnf); first | refine brT ?_ | refine brF ?_)); conv => whnf)
  refine ⟨_, h1, ?_⟩
  rw [show flatT (rowOw R) = true from flat_ints R]
  ((repeat ((conv => whnf); first | refine brT ?_ | refine brF ?_)); conv => whnf)
  refine ⟨_, h2, ?_⟩
  ((repeat ((conv => whnf); first | refine brT ?_ | refine brF ?_)); conv => whnf)
  exact fin rfl
end Go.Proofs.YtgkjafmmekjjlaaGreat
namespace Go.Proofs.YtgkjafmmekjjlaaGreat
open Go.Lg Go.Pm
def barLV (x : Int × Nat) : LV := .st [.int .i64 x.1, .clos x.2 []]
def barsL : List (Int × Nat) :=
  [(1, 120), (2, 121), (3, 122), (4, 123), (5, 124), (6, 125),
   (7, 126), (8, 127), (9, 128), (10, 129), (11, 130), (12, 131)]
theorem bars_spec : FSpec env.P 93 [] (.own 138 2 (barsL.map barLV)) := by
  refine FSpec_of_code env_ok (fn := Tryz.f93) Tryz.func93 rfl Tryz.call93 _ _ ?_
  ((repeat ((conv => whnf); first | refine brT ?_ | refine brF ?_)); conv => whnf)
  exact ⟨rfl, rfl, rfl, rfl, by simp⟩
def impTo (q : Int → Bool) (B : List (Int × Nat)) (k : Nat) : List Int := ((B.take k).filter fun x => q x.1).map (·.1)
theorem impTo_succ (q : Int → Bool) (B : List (Int × Nat)) {k : Nat} (h : k < B.length) : impTo q B (k + 1) = impTo q B k ++ match q B[k].1 with | true => [B[k].1] | false => [] := by
  unfold impTo
  rw [List.take_succ_eq_append_getElem h, List.filter_append, List.map_append]
  cases hq : q B[k].1 <;> simp [hq]
theorem impTo_len (q : Int → Bool) (B : List (Int × Nat)) (k : Nat) : (impTo q B k).length ≤ B.length := by
  unfold impTo
  rw [List.length_map]
  exact Nat.le_trans (List.length_filter_le _ _) (by rw [List.length_take]; omega)
theorem imps_h (l : Lw) (ps : List Per) (us : List Uni) (F M : List Int) (a b y : Int) (q : Int → Bool) (B : List (Int × Nat)) (hb : FSpec env.P 93 [] (.own 138 2 (B.map barLV))) (hl : B.length ≤ 12)
    (hB : ∀ x ∈ B, FSpec env.P x.2 [cLV l ps us F M, mLV a b y] (.bool (q x.1))) :
    HSpec env.P 51 [cLV l ps us F M, mLV a b y] [] (.hs 0 ((impTo q B B.length).map intLV).length) [.arr 3 1 ((impTo q B B.length).map intLV)] := by
  have hBm : (B.map barLV).length = B.length := List.length_map ..
  obtain ⟨d, c, aa, g, w, hh, pp, m⟩ := l
  unfold cLV upL at hB ⊢
  unfold mLV at hB ⊢
  dsimp only [Lw.lv] at hB ⊢
  refine HSpec_of_code (E := env.x [] 0) env_ok.x (fn := Tryz.f51) Tryz.func51 rfl Tryz.call51 _ _ _ _ ?_
  ((repeat ((conv => whnf); first | refine brT ?_ | refine brF ?_)); conv => whnf)
  refine ⟨_, hb, ?_⟩
  ((repeat ((conv => whnf); first | refine brT ?_ | refine brF ?_)); conv => whnf)
  intro _
  ((repeat ((conv => whnf); first | refine brT ?_ | refine brF ?_)); conv => whnf)
  rw [hBm]
  refine loop_ruleR (α := Nat) [.old 0, .old 1, .nil 3 1] (fun k => [(10, .int .i64 (k : Int)), (5, .hs 2 ((impTo q B k).map intLV).length)]) (fun k => [.box (.st [.st [.int .i64 d, .int .i64 c, .int .i64 aa, .int .i64 g, .int .i64 w, .int .i64 hh, .bool pp, .bool m], famLV ps us, .sl ((clT ps).map rowSl), rowSl F, rowSl M]), .box (.st [.int .i64 a, .int .i64 b, .int .i64 y]), .arr 3 1 ((impTo q B k).map intLV)]) (fun k => B.length - k) (fun k => k ≤ B.length) 0 (Nat.zero_le _) ?_ ?_
  · refine ⟨?_, ⟨rfl, rfl, rfl, rfl, rfl, rfl, trivial⟩, rfl⟩
    ((repeat ((conv => whnf); refine ⟨rfl, rfl, ?_⟩)); trivial)
  intro k hk
  generalize hK : kk _ = KK
  ((repeat ((conv => whnf); first | refine brT ?_ | refine brF ?_)); conv => whnf)
  (refine ⟨fun g1 => ?_, fun g1 => ?_⟩ <;> rw [g1])
  · have hlt : k < B.length := by rw [ltI_t] at g1; omega
    have e := step_i hlt (by unfold Go.maxLen; omega)
    have hw := impTo_succ q B hlt
    have hwl := impTo_len q B (k + 1)
    have hBk := hB _ (List.getElem_mem hlt)
    have hg : (B.map barLV)[k]? = some (barLV B[k]) := by rw [List.getElem?_map, List.getElem?_eq_getElem hlt]; rfl
    generalize B[k] = x at hw hBk hg
    ((repeat ((conv => whnf); first | refine brT ?_ | refine brF ?_)); conv => whnf)
    refine ⟨k, barLV x, rfl, hg, rfl, ?_⟩
    ((repeat ((conv => whnf); first | refine brT ?_ | refine brF ?_)); conv => whnf)
    refine ⟨_, hBk, ?_⟩
    ((repeat ((conv => whnf); first | refine brT ?_ | refine brF ?_)); conv => whnf)
    (refine ⟨fun g2 => ?_, fun g2 => ?_⟩ <;> rw [g2])
    · rw [g2] at hw
      have e2 : (impTo q B k).map intLV ++ [LV.int .i64 x.1] = (impTo q B (k + 1)).map intLV := by rw [hw, List.map_append]; rfl
      ((repeat ((conv => whnf); first | refine brT ?_ | refine brF ?_)); conv => whnf)
      refine ⟨rfl, rfl, ?_, ?_, ?_⟩
      · rw [e2, List.length_map]; unfold Go.maxLen; omega
      · rw [e2, List.length_map]; show (impTo q B (k + 1)).length * 8 ≤ _; omega
      rw [e2]
      ((repeat ((conv => whnf); first | refine brT ?_ | refine brF ?_)); conv => whnf)
      subst hK
      refine round_endR [.old 0, .old 1, .old 5] (k + 1) hlt (by omega) ⟨?_, ⟨rfl, rfl, rfl, rfl, rfl, rfl, trivial⟩, rfl⟩
      ((repeat ((conv => whnf); first | refine ⟨rfl, e, ?_⟩ | refine ⟨rfl, rfl, ?_⟩)); trivial)
    · rw [g2, List.append_nil] at hw
      have e3 : LV.hs 2 ((impTo q B k).map intLV).length = LV.hs 2 ((impTo q B (k + 1)).map intLV).length := by rw [hw]
      ((repeat ((conv => whnf); first | refine brT ?_ | refine brF ?_)); conv => whnf)
      subst hK
      refine round_endR [.old 0, .old 1, .old 2] (k + 1) hlt (by omega) ⟨?_, ⟨rfl, rfl, rfl, rfl, rfl, congrArg (Blk.arr 3 1) (by rw [hw]), trivial⟩, rfl⟩
      repeat ((conv => whnf); first | refine ⟨rfl, e, ?_⟩ | refine ⟨rfl, e3, ?_⟩ | refine ⟨rfl, rfl, ?_⟩)
      trivial
  · have h4 : k = B.length := by rw [ltI_f] at g1; omega
    subst h4
    subst hK
    ((repeat ((conv => whnf); first | refine brT ?_ | refine brF ?_)); conv => whnf)
    exact ⟨[.hs 0 ((impTo q B B.length).map intLV).length], rfl, rfl, .inr ⟨[.old 2], ⟨rfl, rfl, trivial⟩, ⟨rfl, rfl, trivial⟩, rfl⟩⟩
end Go.Proofs.YtgkjafmmekjjlaaGreat
namespace Go.Proofs.YtgkjafmmekjjlaaGreat
open Go.Lg
abbrev shLaw : Sh := .st [.int .i64, .int .i64, .int .i64, .int .i64, .int .i64, .int .i64, .bool, .bool]
theorem law_of_sh {x : LV} (h : hasSh shLaw x) : ∃ l : Lw, x = l.lv ∧ True := by
  simp only [hasSh] at h
  obtain ⟨xs, rfl, h⟩ := h
  match xs, h with
  | [a, b, c, d, e, f, g, i], h =>
    simp only [hasShs, hasSh] at h
    obtain ⟨⟨a, rfl⟩, ⟨b, rfl⟩, ⟨c, rfl⟩, ⟨d, rfl⟩, ⟨e, rfl⟩, ⟨f, rfl⟩, ⟨g, rfl⟩, ⟨i, rfl⟩, _⟩ := h
    exact ⟨⟨a, b, c, d, e, f, g, i⟩, rfl, trivial⟩
  | [], h => simp [hasShs] at h
  | [_], h => simp [hasShs] at h
  | [_, _], h => simp [hasShs] at h
  | [_, _, _], h => simp [hasShs] at h
  | [_, _, _, _], h => simp [hasShs] at h
  | [_, _, _, _, _], h => simp [hasShs] at h
  | [_, _, _, _, _, _], h => simp [hasShs] at h
  | [_, _, _, _, _, _, _], h => simp [hasShs] at h
  | _ :: _ :: _ :: _ :: _ :: _ :: _ :: _ :: _ :: _, h => simp [hasShs] at h
theorem leI_notlt (a b : Int) : leI b a = notB (ltI a b) := by
  unfold notB
  cases h : ltI a b with
  | true => rw [ltI_t] at h; show leI b a = false; rw [leI_f]; omega
  | false => rw [ltI_f] at h; show leI b a = true; rw [leI_t]; omega
end Go.Proofs.YtgkjafmmekjjlaaGreat
namespace Go.Proofs.YtgkjafmmekjjlaaGreat
open Go.Lg Go.Pm
theorem out_life (y : Int) (p : Per) : outL y p = (ltI y p.born || (notB (eqI p.died (-1)) && ltI p.died y)) := by
  unfold outL livedTo
  rw [leI_notlt]
  cases ltI y p.born <;> cases eqI p.died (-1) <;> cases ltI p.died y <;> simp [notB]
theorem life_spec (p : Per) (y : Int) : FSpec env.P 77 [p.lv, .int .i64 y] (.bool (outL y p)) := by
  rw [out_life]
  refine FSpec_of_code env_ok (fn := Tryz.f77) Tryz.func77 rfl Tryz.call77 _ _ ?_
  ((repeat' (((repeat ((conv => whnf); first | refine brT ?_ | refine brF ?_)); conv => whnf); (refine And.intro ?_ ?_ <;> (intro h; rw [h]; revert h; intro _)))); all_goals ((repeat ((conv => whnf); first | refine brT ?_ | refine brF ?_)); conv => whnf))
  all_goals (refine fin ?_; simp_all [notB])
def closeB (n : Int) (L : List (Int × Int)) : Bool := lkB L && leI (civR L) n
theorem close_spec (ps : List Per) (us : List Uni) (a b n : Int) : FSpec env.P 80 [famLV ps us, .int .i64 a, .int .i64 b, .int .i64 n] (.bool (closeB n (linksL ps us a b))) := by
  have h1 := civil_spec ps us a b
  unfold closeB
  generalize civR (linksL ps us a b) = r at h1 ⊢
  generalize lkB (linksL ps us a b) = B at h1 ⊢
  refine FSpec_of_code env_ok (fn := Tryz.f80) Tryz.func80 rfl Tryz.call80 _ _ ?_
  ((repeat ((conv => whnf); first | refine brT ?_ | refine brF ?_)); conv => whnf)
  refine ⟨_, h1, ?_⟩
  ((repeat ((conv => whnf); first | refine brT ?_ | refine brF ?_)); conv => whnf)
  cases B
  · ((repeat ((conv => whnf); first | refine brT ?_ | refine brF ?_)); conv => whnf)
    exact fin rfl
  · ((repeat ((conv => whnf); first | refine brT ?_ | refine brF ?_)); conv => whnf)
    exact fin rfl
def afP (ps : List Per) (us : List Uni) (p q y n : Int) (u : Uni) : Bool := otherB p u && (notB (eqI (otherV p u) q) && (leI u.since y && closeB n (linksL ps us (otherV p u) q)))
theorem affine9_spec (ps : List Per) (us : List Uni) (p q y n : Int) (hu : us.length ≤ 60) : FSpec env.P 83 [famLV ps us, .int .i64 p, .int .i64 q, .int .i64 y, .int .i64 n] (.bool (us.any (afP ps us p q y n))) := by
  refine FSpec_of_code env_ok (fn := Tryz.f83) Tryz.func83 rfl Tryz.call83 _ _ ?_
  have hU : (us.map Uni.lv).length = us.length := List.length_map ..
  ((repeat ((conv => whnf); first | refine brT ?_ | refine brF ?_)); conv => whnf)
  intro _
  ((repeat ((conv => whnf); first | refine brT ?_ | refine brF ?_)); conv => whnf)
  rw [hU]
  refine loop_rule (α := Nat) (fun k => [(18, .int .i64 (k : Int))]) (fun k => [.box (famLV ps us)]) (fun k => us.length - k) (fun k => k ≤ us.length ∧ (us.drop k).any (afP ps us p q y n) = us.any (afP ps us p q y n)) 0 ⟨Nat.zero_le _, rfl⟩ ?_ ?_
  · refine ⟨?_, ⟨rfl, trivial⟩, rfl, rfl⟩
    ((repeat ((conv => whnf); refine ⟨rfl, ?_⟩)); trivial)
  rintro k ⟨hk, hi⟩
  generalize hK : kk _ = KK
  ((repeat ((conv => whnf); first | refine brT ?_ | refine brF ?_)); conv => whnf)
  (refine ⟨fun g1 => ?_, fun g1 => ?_⟩ <;> rw [g1])
  · have hlt : k < us.length := by rw [ltI_t] at g1; omega
    have e := step_i hlt (by unfold Go.maxLen; omega)
    have hg : (us.map Uni.lv)[k]? = some us[k].lv := by rw [List.getElem?_map, List.getElem?_eq_getElem hlt]; rfl
    rw [List.drop_eq_getElem_cons hlt, List.any_cons] at hi
    generalize us[k] = u at hi hg
    have h1 := l1Other_spec u p
    have h2 := close_spec ps us (otherV p u) q n
    unfold afP at hi
    generalize closeB n (linksL ps us (otherV p u) q) = c4 at hi h2
    generalize hv : otherV p u = v at hi h1 h2
    generalize otherB p u = c1 at hi h1
    ((repeat ((conv => whnf); first | refine brT ?_ | refine brF ?_)); conv => whnf)
    refine ⟨k, u.lv, rfl, hg, rfl, ?_⟩
    ((repeat ((conv => whnf); first | refine brT ?_ | refine brF ?_)); conv => whnf)
    refine ⟨_, h1, ?_⟩
    ((repeat ((conv => whnf); first | refine brT ?_ | refine brF ?_)); conv => whnf)
    have skip : (c1 && (notB (eqI v q) && (leI u.since y && c4))) = false → (us.drop (k + 1)).any (afP ps us p q y n) = us.any (afP ps us p q y n) := fun e0 => by
      rw [e0, Bool.false_or] at hi; exact hi
    have done : (c1 && (notB (eqI v q) && (leI u.since y && c4))) = true → us.any (afP ps us p q y n) = true := fun e0 => by
      rw [e0, Bool.true_or] at hi; exact hi.symm
    clear hi
    ((repeat' (((repeat ((conv => whnf); first | refine brT ?_ | refine brF ?_)); conv => whnf); first | (refine And.intro ?_ ?_ <;> (intro h; rw [h]; revert h; intro _)) | (refine Exists.intro true (And.intro (a := drawB _ _ = true) (by kernel_rfl) ?_)) | (refine Exists.intro _ (And.intro (h2) ?_)))); all_goals ((repeat ((conv => whnf); first | refine brT ?_ | refine brF ?_)); conv => whnf))
    all_goals first
      | (subst hK
         refine round_end (k + 1) ⟨hlt, skip (by simp_all [notB])⟩ (by omega) ⟨?_, ⟨rfl, trivial⟩, rfl, rfl⟩
         ((repeat ((conv => whnf); first | refine ⟨e, ?_⟩ | refine ⟨rfl, ?_⟩)); trivial))
      | (subst hK
         ((repeat ((conv => whnf); first | refine brT ?_ | refine brF ?_)); conv => whnf)
         refine fin ?_
         exact (done (by simp_all [notB])).symm)
  · have h4 : k = us.length := by rw [ltI_f] at g1; omega
    subst h4
    subst hK
    rw [List.drop_length] at hi
    ((repeat ((conv => whnf); first | refine brT ?_ | refine brF ?_)); conv => whnf)
    refine fin ?_
    exact hi
end Go.Proofs.YtgkjafmmekjjlaaGreat
namespace Go.Proofs.YtgkjafmmekjjlaaGreat
open Go.Lg Go.Pm
abbrev U0 : LV := .undef
theorem bars9_spec (ps : List Per) (us : List Uni) (ld lc la lg lw lh : Int) (lp lm : Bool) (a b : Nat) (y : Int) (x z : Per) (m1 m2 up1 up2 f1 f2 f3 f4 cn : Int) (ok C7 B12 a1 a2 : Bool)
    (hx : (ps.map Per.lv)[a]? = some x.lv) (hz : (ps.map Per.lv)[b]? = some z.lv) (U1 U2 R1 R2 : List Int)
    (hm1 : FSpec env.P 78 [famLV ps us, .int .i64 (a : Int), .int .i64 y] (rowOw R1)) (hm2 : FSpec env.P 78 [famLV ps us, .int .i64 (b : Int), .int .i64 y] (rowOw R2))
    (hu1 : FSpec env.P 79 [famLV ps us, .int .i64 (a : Int)] (rowOw U1)) (hu2 : FSpec env.P 79 [famLV ps us, .int .i64 (b : Int)] (rowOw U2))
    (hg1 : (U1.map intLV)[b]? = some (intLV up1)) (hg2 : (U2.map intLV)[a]? = some (intLV up2))
    (hc7 : FSpec env.P 80 [famLV ps us, .int .i64 (a : Int), .int .i64 (b : Int), .int .i64 ld] (.bool C7))
    (hcn : FSpec env.P 81 [famLV ps us, .int .i64 (a : Int), .int .i64 (b : Int)] (.tup [.int .i64 cn, .bool ok]))
    (hf1 : FSpec env.P 82 [famLV ps us, .int .i64 (a : Int), .int .i64 1] (.int .i64 f1)) (hf2 : FSpec env.P 82 [famLV ps us, .int .i64 (b : Int), .int .i64 1] (.int .i64 f2))
    (hf3 : FSpec env.P 82 [famLV ps us, .int .i64 (a : Int), .int .i64 2] (.int .i64 f3)) (hf4 : FSpec env.P 82 [famLV ps us, .int .i64 (b : Int), .int .i64 2] (.int .i64 f4))
    (ha1 : FSpec env.P 83 [famLV ps us, .int .i64 (a : Int), .int .i64 (b : Int), .int .i64 y, .int .i64 la] (.bool a1)) (ha2 : FSpec env.P 83 [famLV ps us, .int .i64 (b : Int), .int .i64 (a : Int), .int .i64 y, .int .i64 la] (.bool a2))
    (hul : us.length ≤ 60) (e12 : B12 = us.any fun u => otherB (a : Int) u && eqI (otherV (a : Int) u) (b : Int))
    {B1 B2 B3 B4 B5 B6 B7 B8 B9 B10 B11 : Bool}
    (e1 : B1 = (notB (eqI x.sex 1) || notB (eqI z.sex 2))) (e2 : B2 = (outL y x || outL y z)) (e3 : B3 = (ltI y (IntKind.i64.wrap (x.born + lg)) || ltI y (IntKind.i64.wrap (z.born + lg))))
    (e4 : B4 = leI lw (R1.length : Int)) (e5 : B5 = leI lh (R2.length : Int)) (e6 : B6 = (leI 0 up1 || leI 0 up2)) (e7 : B7 = (notB (eqI ld 0) && C7)) (e8 : B8 = (notB (eqI lc 0) && (ok && leI cn lc)))
    (e9 : B9 = (lp && eqI f1 f2)) (e10 : B10 = (lm && eqI f3 f4)) (e11 : B11 = (notB (eqI la 0) && (a1 || a2))) :
    FSpec env.P 45 [famLV ps us, .st [.int .i64 ld, .int .i64 lc, .int .i64 la, .int .i64 lg, .int .i64 lw, .int .i64 lh, .bool lp, .bool lm], .int .i64 (a : Int), .int .i64 (b : Int), .int .i64 y] (.own 4 1 ([false, B1, B2, B3, B4, B5, B6, B7, B8, B9, B10, B11, B12].map bLV)) := by
  have hP : (ps.map Per.lv).length = ps.length := List.length_map ..
  have hR1 : ((R1.map intLV).length : Int) = (R1.length : Int) := by simp
  have hR2 : ((R2.map intLV).length : Int) = (R2.length : Int) := by simp
  refine FSpec_of_cuts [false, false, false, true, true, true, true, true, true, true, true, true, true, true, true, true] env_ok (fn := Tryz.f45) Tryz.func45 rfl Tryz.call45 _ _ ?_
  ((repeat ((conv => whnf); first | refine brT ?_ | refine brF ?_)); conv => whnf)
  refine ⟨a, _, rfl, hx, rfl, ?_⟩
  ((repeat ((conv => whnf); first | refine brT ?_ | refine brF ?_)); conv => whnf)
  refine ⟨b, _, rfl, hz, rfl, ?_⟩
  ((repeat ((conv => whnf); first | refine brT ?_ | refine brF ?_)); conv => whnf)
  refine ⟨[.st [.sl (ps.map Per.lv), .sl (us.map Uni.lv)], .st [.int .i64 ld, .int .i64 lc, .int .i64 la, .int .i64 lg, .int .i64 lw, .int .i64 lh, .bool lp, .bool lm], .int .i64 (a : Int), .int .i64 (b : Int), .int .i64 y, .hp 0 0 [], .hp 1 0 [], U0, U0, U0, U0, .hp 2 0 [], .hp 3 0 [], .hs 4 13, U0, U0, U0, U0, U0, U0, U0, U0, U0, U0, U0, U0, U0, U0, U0, U0, U0, U0, U0, U0, U0, U0, U0, U0, U0, U0, U0, U0, U0, U0, U0, U0, U0, U0, U0, U0, U0, U0, U0, U0, U0, U0, U0, U0, U0, U0, U0, U0, U0, U0, U0, U0, U0, U0, U0, U0, U0, U0, U0, U0, U0, U0, U0, U0, U0, U0, U0, U0, U0, U0, U0, U0, U0, U0, U0, U0, U0, U0, U0, U0, U0, U0, U0, U0, U0, U0, U0, U0, U0, U0, U0, U0, U0, U0, U0, U0, U0, U0, U0, U0, U0, U0, U0, U0, U0, U0, U0, U0, U0, U0, U0, U0, U0, U0, U0, U0, U0, U0, U0, U0, U0, U0, U0, U0, U0, U0, U0, U0, U0, U0, U0, U0, U0, U0, U0, U0, U0, U0, U0, U0, U0, U0, U0, U0, U0, U0, U0, U0, U0, U0, U0, U0, U0, U0, U0, U0, U0, U0, U0, U0, U0, U0, U0, U0, U0, U0, U0, U0, U0, U0, U0, U0, U0, U0, U0, U0, U0, U0, U0, U0, U0, U0, U0, U0, U0, U0, U0, U0, U0, U0, U0, U0, U0, U0, U0, U0, U0, U0, U0, U0, U0, U0, U0, U0], [.box (.st [.sl (ps.map Per.lv), .sl (us.map Uni.lv)]), .box (.st [.int .i64 ld, .int .i64 lc, .int .i64 la, .int .i64 lg, .int .i64 lw, .int .i64 lh, .bool lp, .bool lm]), .box x.lv, .box z.lv, .arr 4 1 [.bool false, .bool false, .bool false, .bool false, .bool false, .bool false, .bool false, .bool false, .bool false, .bool false, .bool false, .bool false, .bool false]], ?_, ?_⟩
  · ((repeat ((conv => whnf); first | refine brT ?_ | refine brF ?_)); conv => whnf)
    refine ⟨13, by decide, by decide, by decide, by decide, rfl, by decide, ?_⟩
    ((repeat ((conv => whnf); first | refine brT ?_ | refine brF ?_)); conv => whnf)
    refine .inr ⟨[.old 0, .old 1, .old 2, .old 3, .old 4], ?_, ⟨rfl, rfl, rfl, rfl, rfl, rfl, rfl, rfl, rfl, rfl, trivial⟩, rfl⟩
    ((repeat ((conv => whnf); refine ⟨rfl, rfl, ?_⟩)); trivial)
  ((repeat ((conv => whnf); first | refine brT ?_ | refine brF ?_)); conv => whnf)
  refine ⟨[.st [.sl (ps.map Per.lv), .sl (us.map Uni.lv)], .st [.int .i64 ld, .int .i64 lc, .int .i64 la, .int .i64 lg, .int .i64 lw, .int .i64 lh, .bool lp, .bool lm], .int .i64 (a : Int), .int .i64 (b : Int), .int .i64 y, .hp 0 0 [], .hp 1 0 [], U0, U0, U0, U0, .hp 2 0 [], .hp 3 0 [], .hs 4 13, U0, U0, U0, U0, U0, U0, U0, U0, U0, U0, U0, U0, U0, U0, U0, U0, U0, U0, U0, U0, U0, U0, U0, U0, U0, U0, U0, U0, U0, U0, U0, U0, U0, U0, U0, U0, U0, U0, U0, U0, U0, U0, U0, U0, U0, U0, U0, U0, U0, U0, U0, U0, U0, U0, U0, U0, U0, U0, U0, U0, U0, U0, U0, U0, U0, U0, U0, U0, U0, U0, U0, U0, U0, U0, U0, U0, U0, U0, U0, U0, U0, U0, U0, U0, U0, U0, U0, U0, U0, U0, U0, U0, U0, U0, U0, U0, U0, U0, U0, U0, U0, U0, U0, U0, U0, U0, U0, U0, U0, U0, U0, U0, U0, U0, U0, U0, U0, U0, U0, U0, U0, U0, U0, U0, U0, U0, U0, U0, U0, U0, U0, U0, U0, U0, U0, U0, U0, U0, U0, U0, U0, U0, U0, U0, U0, U0, U0, U0, U0, U0, U0, U0, U0, U0, U0, U0, U0, U0, U0, U0, U0, U0, U0, U0, U0, U0, U0, U0, U0, U0, U0, U0, U0, U0, U0, U0, U0, U0, U0, U0, U0, U0, U0, U0, U0, U0, U0, U0, U0, U0, U0, U0, U0, U0, U0, U0, U0, U0, U0, U0, U0, U0, U0, U0], [.box (.st [.sl (ps.map Per.lv), .sl (us.map Uni.lv)]), .box (.st [.int .i64 ld, .int .i64 lc, .int .i64 la, .int .i64 lg, .int .i64 lw, .int .i64 lh, .bool lp, .bool lm]), .box x.lv, .box z.lv, .arr 4 1 [.bool false, .bool B1, .bool false, .bool false, .bool false, .bool false, .bool false, .bool false, .bool false, .bool false, .bool false, .bool false, .bool false]], ?_, ?_⟩
  · subst e1
    ((repeat ((conv => whnf); first | refine brT ?_ | refine brF ?_)); conv => whnf)
    (refine ⟨fun h => ?_, fun h => ?_⟩ <;> rw [h])
    · ((repeat ((conv => whnf); first | refine brT ?_ | refine brF ?_)); conv => whnf)
      refine ⟨rfl, rfl, 1, rfl, show 1 < 13 by omega, ?_⟩
      ((repeat ((conv => whnf); first | refine brT ?_ | refine brF ?_)); conv => whnf)
      refine ⟨rfl, 1, [], .bool false, rfl, rfl, rfl, rfl, rfl, _, rfl, ?_⟩
      ((repeat ((conv => whnf); first | refine brT ?_ | refine brF ?_)); conv => whnf)
      refine .inr ⟨[.old 0, .old 1, .old 2, .old 3, .old 4], ?_, ⟨rfl, rfl, rfl, rfl, rfl, rfl, rfl, rfl, rfl, rfl, trivial⟩, rfl⟩
      ((repeat ((conv => whnf); refine ⟨rfl, rfl, ?_⟩)); trivial)
    · ((repeat ((conv => whnf); first | refine brT ?_ | refine brF ?_)); conv => whnf)
      refine ⟨rfl, rfl, 1, rfl, show 1 < 13 by omega, ?_⟩
      ((repeat ((conv => whnf); first | refine brT ?_ | refine brF ?_)); conv => whnf)
      refine ⟨rfl, 1, [], .bool false, rfl, rfl, rfl, rfl, rfl, _, rfl, ?_⟩
      ((repeat ((conv => whnf); first | refine brT ?_ | refine brF ?_)); conv => whnf)
      refine .inr ⟨[.old 0, .old 1, .old 2, .old 3, .old 4], ?_, ⟨rfl, rfl, rfl, rfl, rfl, rfl, rfl, rfl, rfl, rfl, trivial⟩, rfl⟩
      ((repeat ((conv => whnf); refine ⟨rfl, rfl, ?_⟩)); trivial)
  ((repeat ((conv => whnf); first | refine brT ?_ | refine brF ?_)); conv => whnf)
  refine ⟨[.st [.sl (ps.map Per.lv), .sl (us.map Uni.lv)], .st [.int .i64 ld, .int .i64 lc, .int .i64 la, .int .i64 lg, .int .i64 lw, .int .i64 lh, .bool lp, .bool lm], .int .i64 (a : Int), .int .i64 (b : Int), .int .i64 y, .hp 0 0 [], .hp 1 0 [], U0, U0, U0, U0, .hp 2 0 [], .hp 3 0 [], .hs 4 13, U0, U0, U0, U0, U0, U0, U0, U0, U0, U0, U0, U0, U0, U0, U0, U0, U0, U0, U0, U0, U0, U0, U0, U0, U0, U0, U0, U0, U0, U0, U0, U0, U0, U0, U0, U0, U0, U0, U0, U0, U0, U0, U0, U0, U0, U0, U0, U0, U0, U0, U0, U0, U0, U0, U0, U0, U0, U0, U0, U0, U0, U0, U0, U0, U0, U0, U0, U0, U0, U0, U0, U0, U0, U0, U0, U0, U0, U0, U0, U0, U0, U0, U0, U0, U0, U0, U0, U0, U0, U0, U0, U0, U0, U0, U0, U0, U0, U0, U0, U0, U0, U0, U0, U0, U0, U0, U0, U0, U0, U0, U0, U0, U0, U0, U0, U0, U0, U0, U0, U0, U0, U0, U0, U0, U0, U0, U0, U0, U0, U0, U0, U0, U0, U0, U0, U0, U0, U0, U0, U0, U0, U0, U0, U0, U0, U0, U0, U0, U0, U0, U0, U0, U0, U0, U0, U0, U0, U0, U0, U0, U0, U0, U0, U0, U0, U0, U0, U0, U0, U0, U0, U0, U0, U0, U0, U0, U0, U0, U0, U0, U0, U0, U0, U0, U0, U0, U0, U0, U0, U0, U0, U0, U0, U0, U0, U0, U0, U0, U0, U0, U0, U0, U0, U0], [.box (.st [.sl (ps.map Per.lv), .sl (us.map Uni.lv)]), .box (.st [.int .i64 ld, .int .i64 lc, .int .i64 la, .int .i64 lg, .int .i64 lw, .int .i64 lh, .bool lp, .bool lm]), .box x.lv, .box z.lv, .arr 4 1 [.bool false, .bool B1, .bool B2, .bool false, .bool false, .bool false, .bool false, .bool false, .bool false, .bool false, .bool false, .bool false, .bool false]], ?_, ?_⟩
  · subst e2
    ((repeat ((conv => whnf); first | refine brT ?_ | refine brF ?_)); conv => whnf)
    refine ⟨_, life_spec x y, ?_⟩
    ((repeat ((conv => whnf); first | refine brT ?_ | refine brF ?_)); conv => whnf)
    (refine ⟨fun h => ?_, fun h => ?_⟩ <;> rw [h])
    · ((repeat ((conv => whnf); first | refine brT ?_ | refine brF ?_)); conv => whnf)
      refine ⟨rfl, rfl, 2, rfl, show 2 < 13 by omega, ?_⟩
      ((repeat ((conv => whnf); first | refine brT ?_ | refine brF ?_)); conv => whnf)
      refine ⟨rfl, 2, [], .bool false, rfl, rfl, rfl, rfl, rfl, _, rfl, ?_⟩
      ((repeat ((conv => whnf); first | refine brT ?_ | refine brF ?_)); conv => whnf)
      refine .inr ⟨[.old 0, .old 1, .old 2, .old 3, .old 4], ?_, ⟨rfl, rfl, rfl, rfl, rfl, rfl, rfl, rfl, rfl, rfl, trivial⟩, rfl⟩
      ((repeat ((conv => whnf); refine ⟨rfl, rfl, ?_⟩)); trivial)
    · ((repeat ((conv => whnf); first | refine brT ?_ | refine brF ?_)); conv => whnf)
      refine ⟨_, life_spec z y, ?_⟩
      ((repeat ((conv => whnf); first | refine brT ?_ | refine brF ?_)); conv => whnf)
      refine ⟨rfl, rfl, 2, rfl, show 2 < 13 by omega, ?_⟩
      ((repeat ((conv => whnf); first | refine brT ?_ | refine brF ?_)); conv => whnf)
      refine ⟨rfl, 2, [], .bool false, rfl, rfl, rfl, rfl, rfl, _, rfl, ?_⟩
      ((repeat ((conv => whnf); first | refine brT ?_ | refine brF ?_)); conv => whnf)
      refine .inr ⟨[.old 0, .old 1, .old 2, .old 3, .old 4], ?_, ⟨rfl, rfl, rfl, rfl, rfl, rfl, rfl, rfl, rfl, rfl, trivial⟩, rfl⟩
      ((repeat ((conv => whnf); refine ⟨rfl, rfl, ?_⟩)); trivial)
  ((repeat ((conv => whnf); first | refine brT ?_ | refine brF ?_)); conv => whnf)
  refine ⟨[.st [.sl (ps.map Per.lv), .sl (us.map Uni.lv)], .st [.int .i64 ld, .int .i64 lc, .int .i64 la, .int .i64 lg, .int .i64 lw, .int .i64 lh, .bool lp, .bool lm], .int .i64 (a : Int), .int .i64 (b : Int), .int .i64 y, .hp 0 0 [], .hp 1 0 [], U0, U0, U0, U0, .hp 2 0 [], .hp 3 0 [], .hs 4 13, U0, U0, U0, U0, U0, U0, U0, U0, U0, U0, U0, U0, U0, U0, U0, U0, U0, U0, U0, U0, U0, U0, U0, U0, U0, U0, U0, U0, U0, U0, U0, U0, U0, U0, U0, U0, U0, U0, U0, U0, U0, U0, U0, U0, U0, U0, U0, U0, U0, U0, U0, U0, U0, U0, U0, U0, U0, U0, U0, U0, U0, U0, U0, U0, U0, U0, U0, U0, U0, U0, U0, U0, U0, U0, U0, U0, U0, U0, U0, U0, U0, U0, U0, U0, U0, U0, U0, U0, U0, U0, U0, U0, U0, U0, U0, U0, U0, U0, U0, U0, U0, U0, U0, U0, U0, U0, U0, U0, U0, U0, U0, U0, U0, U0, U0, U0, U0, U0, U0, U0, U0, U0, U0, U0, U0, U0, U0, U0, U0, U0, U0, U0, U0, U0, U0, U0, U0, U0, U0, U0, U0, U0, U0, U0, U0, U0, U0, U0, U0, U0, U0, U0, U0, U0, U0, U0, U0, U0, U0, U0, U0, U0, U0, U0, U0, U0, U0, U0, U0, U0, U0, U0, U0, U0, U0, U0, U0, U0, U0, U0, U0, U0, U0, U0, U0, U0, U0, U0, U0, U0, U0, U0, U0, U0, U0, U0, U0, U0, U0, U0, U0, U0, U0, U0], [.box (.st [.sl (ps.map Per.lv), .sl (us.map Uni.lv)]), .box (.st [.int .i64 ld, .int .i64 lc, .int .i64 la, .int .i64 lg, .int .i64 lw, .int .i64 lh, .bool lp, .bool lm]), .box x.lv, .box z.lv, .arr 4 1 [.bool false, .bool B1, .bool B2, .bool B3, .bool false, .bool false, .bool false, .bool false, .bool false, .bool false, .bool false, .bool false, .bool false]], ?_, ?_⟩
  · subst e3
    ((repeat ((conv => whnf); first | refine brT ?_ | refine brF ?_)); conv => whnf)
    (refine ⟨fun h => ?_, fun h => ?_⟩ <;> rw [h])
    · ((repeat ((conv => whnf); first | refine brT ?_ | refine brF ?_)); conv => whnf)
      refine ⟨rfl, rfl, 3, rfl, show 3 < 13 by omega, ?_⟩
      ((repeat ((conv => whnf); first | refine brT ?_ | refine brF ?_)); conv => whnf)
      refine ⟨rfl, 3, [], .bool false, rfl, rfl, rfl, rfl, rfl, _, rfl, ?_⟩
      ((repeat ((conv => whnf); first | refine brT ?_ | refine brF ?_)); conv => whnf)
      refine .inr ⟨[.old 0, .old 1, .old 2, .old 3, .old 4], ?_, ⟨rfl, rfl, rfl, rfl, rfl, rfl, rfl, rfl, rfl, rfl, trivial⟩, rfl⟩
      ((repeat ((conv => whnf); refine ⟨rfl, rfl, ?_⟩)); trivial)
    · ((repeat ((conv => whnf); first | refine brT ?_ | refine brF ?_)); conv => whnf)
      refine ⟨rfl, rfl, 3, rfl, show 3 < 13 by omega, ?_⟩
      ((repeat ((conv => whnf); first | refine brT ?_ | refine brF ?_)); conv => whnf)
      refine ⟨rfl, 3, [], .bool false, rfl, rfl, rfl, rfl, rfl, _, rfl, ?_⟩
      ((repeat ((conv => whnf); first | refine brT ?_ | refine brF ?_)); conv => whnf)
      refine .inr ⟨[.old 0, .old 1, .old 2, .old 3, .old 4], ?_, ⟨rfl, rfl, rfl, rfl, rfl, rfl, rfl, rfl, rfl, rfl, trivial⟩, rfl⟩
      ((repeat ((conv => whnf); refine ⟨rfl, rfl, ?_⟩)); trivial)
  ((repeat ((conv => whnf); first | refine brT ?_ | refine brF ?_)); conv => whnf)
  refine ⟨[.st [.sl (ps.map Per.lv), .sl (us.map Uni.lv)], .st [.int .i64 ld, .int .i64 lc, .int .i64 la, .int .i64 lg, .int .i64 lw, .int .i64 lh, .bool lp, .bool lm], .int .i64 (a : Int), .int .i64 (b : Int), .int .i64 y, .hp 0 0 [], .hp 1 0 [], U0, U0, U0, U0, .hp 2 0 [], .hp 3 0 [], .hs 4 13, U0, U0, U0, U0, U0, U0, U0, U0, U0, U0, U0, U0, U0, U0, U0, U0, U0, U0, U0, U0, U0, U0, U0, U0, U0, U0, U0, U0, U0, U0, U0, U0, U0, U0, U0, U0, U0, U0, U0, U0, U0, U0, U0, U0, U0, U0, U0, U0, U0, U0, U0, U0, U0, U0, U0, U0, U0, U0, U0, U0, U0, U0, U0, U0, U0, U0, U0, U0, U0, U0, U0, U0, U0, U0, U0, U0, U0, U0, U0, U0, U0, U0, U0, U0, U0, U0, U0, U0, U0, U0, U0, U0, U0, U0, U0, U0, U0, U0, U0, U0, U0, U0, U0, U0, U0, U0, U0, U0, U0, U0, U0, U0, U0, U0, U0, U0, U0, U0, U0, U0, U0, U0, U0, U0, U0, U0, U0, U0, U0, U0, U0, U0, U0, U0, U0, U0, U0, U0, U0, U0, U0, U0, U0, U0, U0, U0, U0, U0, U0, U0, U0, U0, U0, U0, U0, U0, U0, U0, U0, U0, U0, U0, U0, U0, U0, U0, U0, U0, U0, U0, U0, U0, U0, U0, U0, U0, U0, U0, U0, U0, U0, U0, U0, U0, U0, U0, U0, U0, U0, U0, U0, U0, U0, U0, U0, U0, U0, U0, U0, U0, U0, U0, U0, U0], [.box (.st [.sl (ps.map Per.lv), .sl (us.map Uni.lv)]), .box (.st [.int .i64 ld, .int .i64 lc, .int .i64 la, .int .i64 lg, .int .i64 lw, .int .i64 lh, .bool lp, .bool lm]), .box x.lv, .box z.lv, .arr 4 1 [.bool false, .bool B1, .bool B2, .bool B3, .bool B4, .bool false, .bool false, .bool false, .bool false, .bool false, .bool false, .bool false, .bool false]], ?_, ?_⟩
  · subst e4
    ((repeat ((conv => whnf); first | refine brT ?_ | refine brF ?_)); conv => whnf)
    refine ⟨true, by kernel_rfl, ?_⟩
    ((repeat ((conv => whnf); first | refine brT ?_ | refine brF ?_)); conv => whnf)
    refine ⟨_, hm1, ?_⟩
    rw [show flatT (rowOw R1) = true from flat_ints R1]
    ((repeat ((conv => whnf); first | refine brT ?_ | refine brF ?_)); conv => whnf)
    intro _
    ((repeat ((conv => whnf); first | refine brT ?_ | refine brF ?_)); conv => whnf)
    rw [hR1]
    ((repeat ((conv => whnf); first | refine brT ?_ | refine brF ?_)); conv => whnf)
    refine ⟨rfl, rfl, 4, rfl, show 4 < 13 by omega, ?_⟩
    ((repeat ((conv => whnf); first | refine brT ?_ | refine brF ?_)); conv => whnf)
    refine ⟨rfl, 4, [], .bool false, rfl, rfl, rfl, rfl, rfl, _, rfl, ?_⟩
    ((repeat ((conv => whnf); first | refine brT ?_ | refine brF ?_)); conv => whnf)
    refine .inr ⟨[.old 0, .old 1, .old 2, .old 3, .old 4], ?_, ⟨rfl, rfl, rfl, rfl, rfl, rfl, rfl, rfl, rfl, rfl, trivial⟩, rfl⟩
    ((repeat ((conv => whnf); refine ⟨rfl, rfl, ?_⟩)); trivial)
  ((repeat ((conv => whnf); first | refine brT ?_ | refine brF ?_)); conv => whnf)
  refine ⟨[.st [.sl (ps.map Per.lv), .sl (us.map Uni.lv)], .st [.int .i64 ld, .int .i64 lc, .int .i64 la, .int .i64 lg, .int .i64 lw, .int .i64 lh, .bool lp, .bool lm], .int .i64 (a : Int), .int .i64 (b : Int), .int .i64 y, .hp 0 0 [], .hp 1 0 [], U0, U0, U0, U0, .hp 2 0 [], .hp 3 0 [], .hs 4 13, U0, U0, U0, U0, U0, U0, U0, U0, U0, U0, U0, U0, U0, U0, U0, U0, U0, U0, U0, U0, U0, U0, U0, U0, U0, U0, U0, U0, U0, U0, U0, U0, U0, U0, U0, U0, U0, U0, U0, U0, U0, U0, U0, U0, U0, U0, U0, U0, U0, U0, U0, U0, U0, U0, U0, U0, U0, U0, U0, U0, U0, U0, U0, U0, U0, U0, U0, U0, U0, U0, U0, U0, U0, U0, U0, U0, U0, U0, U0, U0, U0, U0, U0, U0, U0, U0, U0, U0, U0, U0, U0, U0, U0, U0, U0, U0, U0, U0, U0, U0, U0, U0, U0, U0, U0, U0, U0, U0, U0, U0, U0, U0, U0, U0, U0, U0, U0, U0, U0, U0, U0, U0, U0, U0, U0, U0, U0, U0, U0, U0, U0, U0, U0, U0, U0, U0, U0, U0, U0, U0, U0, U0, U0, U0, U0, U0, U0, U0, U0, U0, U0, U0, U0, U0, U0, U0, U0, U0, U0, U0, U0, U0, U0, U0, U0, U0, U0, U0, U0, U0, U0, U0, U0, U0, U0, U0, U0, U0, U0, U0, U0, U0, U0, U0, U0, U0, U0, U0, U0, U0, U0, U0, U0, U0, U0, U0, U0, U0, U0, U0, U0, U0, U0, U0], [.box (.st [.sl (ps.map Per.lv), .sl (us.map Uni.lv)]), .box (.st [.int .i64 ld, .int .i64 lc, .int .i64 la, .int .i64 lg, .int .i64 lw, .int .i64 lh, .bool lp, .bool lm]), .box x.lv, .box z.lv, .arr 4 1 [.bool false, .bool B1, .bool B2, .bool B3, .bool B4, .bool B5, .bool false, .bool false, .bool false, .bool false, .bool false, .bool false, .bool false]], ?_, ?_⟩
  · subst e5
    ((repeat ((conv => whnf); first | refine brT ?_ | refine brF ?_)); conv => whnf)
    refine ⟨true, by kernel_rfl, ?_⟩
    ((repeat ((conv => whnf); first | refine brT ?_ | refine brF ?_)); conv => whnf)
    refine ⟨_, hm2, ?_⟩
    rw [show flatT (rowOw R2) = true from flat_ints R2]
    ((repeat ((conv => whnf); first | refine brT ?_ | refine brF ?_)); conv => whnf)
    intro _
    ((repeat ((conv => whnf); first | refine brT ?_ | refine brF ?_)); conv => whnf)
    rw [hR2]
    ((repeat ((conv => whnf); first | refine brT ?_ | refine brF ?_)); conv => whnf)
    refine ⟨rfl, rfl, 5, rfl, show 5 < 13 by omega, ?_⟩
    ((repeat ((conv => whnf); first | refine brT ?_ | refine brF ?_)); conv => whnf)
    refine ⟨rfl, 5, [], .bool false, rfl, rfl, rfl, rfl, rfl, _, rfl, ?_⟩
    ((repeat ((conv => whnf); first | refine brT ?_ | refine brF ?_)); conv => whnf)
    refine .inr ⟨[.old 0, .old 1, .old 2, .old 3, .old 4], ?_, ⟨rfl, rfl, rfl, rfl, rfl, rfl, rfl, rfl, rfl, rfl, trivial⟩, rfl⟩
    ((repeat ((conv => whnf); refine ⟨rfl, rfl, ?_⟩)); trivial)
  ((repeat ((conv => whnf); first | refine brT ?_ | refine brF ?_)); conv => whnf)
  refine ⟨[.st [.sl (ps.map Per.lv), .sl (us.map Uni.lv)], .st [.int .i64 ld, .int .i64 lc, .int .i64 la, .int .i64 lg, .int .i64 lw, .int .i64 lh, .bool lp, .bool lm], .int .i64 (a : Int), .int .i64 (b : Int), .int .i64 y, .hp 0 0 [], .hp 1 0 [], U0, U0, U0, U0, .hp 2 0 [], .hp 3 0 [], .hs 4 13, U0, U0, U0, U0, U0, U0, U0, U0, U0, U0, U0, U0, U0, U0, U0, U0, U0, U0, U0, U0, U0, U0, U0, U0, U0, U0, U0, U0, U0, U0, U0, U0, U0, U0, U0, U0, U0, U0, U0, U0, U0, U0, U0, U0, U0, U0, U0, U0, U0, U0, U0, U0, U0, U0, U0, U0, U0, U0, U0, U0, U0, U0, U0, U0, U0, U0, U0, U0, U0, U0, U0, U0, U0, U0, U0, U0, U0, U0, U0, U0, U0, U0, U0, U0, U0, U0, U0, U0, U0, U0, U0, U0, U0, U0, U0, U0, U0, U0, U0, U0, U0, U0, U0, U0, U0, U0, U0, U0, U0, U0, U0, U0, U0, U0, U0, U0, U0, U0, U0, U0, U0, U0, U0, U0, U0, U0, U0, U0, U0, U0, U0, U0, U0, U0, U0, U0, U0, U0, U0, U0, U0, U0, U0, U0, U0, U0, U0, U0, U0, U0, U0, U0, U0, U0, U0, U0, U0, U0, U0, U0, U0, U0, U0, U0, U0, U0, U0, U0, U0, U0, U0, U0, U0, U0, U0, U0, U0, U0, U0, U0, U0, U0, U0, U0, U0, U0, U0, U0, U0, U0, U0, U0, U0, U0, U0, U0, U0, U0, U0, U0, U0, U0, U0, U0], [.box (.st [.sl (ps.map Per.lv), .sl (us.map Uni.lv)]), .box (.st [.int .i64 ld, .int .i64 lc, .int .i64 la, .int .i64 lg, .int .i64 lw, .int .i64 lh, .bool lp, .bool lm]), .box x.lv, .box z.lv, .arr 4 1 [.bool false, .bool B1, .bool B2, .bool B3, .bool B4, .bool B5, .bool B6, .bool false, .bool false, .bool false, .bool false, .bool false, .bool false]], ?_, ?_⟩
  · subst e6
    ((repeat ((conv => whnf); first | refine brT ?_ | refine brF ?_)); conv => whnf)
    refine ⟨_, hu1, ?_⟩
    rw [show flatT (rowOw U1) = true from flat_ints U1]
    ((repeat ((conv => whnf); first | refine brT ?_ | refine brF ?_)); conv => whnf)
    refine ⟨b, _, rfl, hg1, rfl, ?_⟩
    ((repeat ((conv => whnf); first | refine brT ?_ | refine brF ?_)); conv => whnf)
    (refine ⟨fun h => ?_, fun h => ?_⟩ <;> rw [h])
    · ((repeat ((conv => whnf); first | refine brT ?_ | refine brF ?_)); conv => whnf)
      refine ⟨rfl, rfl, 6, rfl, show 6 < 13 by omega, ?_⟩
      ((repeat ((conv => whnf); first | refine brT ?_ | refine brF ?_)); conv => whnf)
      refine ⟨rfl, 6, [], .bool false, rfl, rfl, rfl, rfl, rfl, _, rfl, ?_⟩
      ((repeat ((conv => whnf); first | refine brT ?_ | refine brF ?_)); conv => whnf)
      refine .inr ⟨[.old 0, .old 1, .old 2, .old 3, .old 4], ?_, ⟨rfl, rfl, rfl, rfl, rfl, rfl, rfl, rfl, rfl, rfl, trivial⟩, rfl⟩
      ((repeat ((conv => whnf); refine ⟨rfl, rfl, ?_⟩)); trivial)
    · ((repeat ((conv => whnf); first | refine brT ?_ | refine brF ?_)); conv => whnf)
      refine ⟨_, hu2, ?_⟩
      rw [show flatT (rowOw U2) = true from flat_ints U2]
      ((repeat ((conv => whnf); first | refine brT ?_ | refine brF ?_)); conv => whnf)
      refine ⟨a, _, rfl, hg2, rfl, ?_⟩
      ((repeat ((conv => whnf); first | refine brT ?_ | refine brF ?_)); conv => whnf)
      refine ⟨rfl, rfl, 6, rfl, show 6 < 13 by omega, ?_⟩
      ((repeat ((conv => whnf); first | refine brT ?_ | refine brF ?_)); conv => whnf)
      refine ⟨rfl, 6, [], .bool false, rfl, rfl, rfl, rfl, rfl, _, rfl, ?_⟩
      ((repeat ((conv => whnf); first | refine brT ?_ | refine brF ?_)); conv => whnf)
      refine .inr ⟨[.old 0, .old 1, .old 2, .old 3, .old 4], ?_, ⟨rfl, rfl, rfl, rfl, rfl, rfl, rfl, rfl, rfl, rfl, trivial⟩, rfl⟩
      ((repeat ((conv => whnf); refine ⟨rfl, rfl, ?_⟩)); trivial)
  ((repeat ((conv => whnf); first | refine brT ?_ | refine brF ?_)); conv => whnf)
  refine ⟨[.st [.sl (ps.map Per.lv), .sl (us.map Uni.lv)], .st [.int .i64 ld, .int .i64 lc, .int .i64 la, .int .i64 lg, .int .i64 lw, .int .i64 lh, .bool lp, .bool lm], .int .i64 (a : Int), .int .i64 (b : Int), .int .i64 y, .hp 0 0 [], .hp 1 0 [], U0, U0, U0, U0, .hp 2 0 [], .hp 3 0 [], .hs 4 13, U0, U0, U0, U0, U0, U0, U0, U0, U0, U0, U0, U0, U0, U0, U0, U0, U0, U0, U0, U0, U0, U0, U0, U0, U0, U0, U0, U0, U0, U0, U0, U0, U0, U0, U0, U0, U0, U0, U0, U0, U0, U0, U0, U0, U0, U0, U0, U0, U0, U0, U0, U0, U0, U0, U0, U0, U0, U0, U0, U0, U0, U0, U0, U0, U0, U0, U0, U0, U0, U0, U0, U0, U0, U0, U0, U0, U0, U0, U0, U0, U0, U0, U0, U0, U0, U0, U0, U0, U0, U0, U0, U0, U0, U0, U0, U0, U0, U0, U0, U0, U0, U0, U0, U0, U0, U0, U0, U0, U0, U0, U0, U0, U0, U0, U0, U0, U0, U0, U0, U0, U0, U0, U0, U0, U0, U0, U0, U0, U0, U0, U0, U0, U0, U0, U0, U0, U0, U0, U0, U0, U0, U0, U0, U0, U0, U0, U0, U0, U0, U0, U0, U0, U0, U0, U0, U0, U0, U0, U0, U0, U0, U0, U0, U0, U0, U0, U0, U0, U0, U0, U0, U0, U0, U0, U0, U0, U0, U0, U0, U0, U0, U0, U0, U0, U0, U0, U0, U0, U0, U0, U0, U0, U0, U0, U0, U0, U0, U0, U0, U0, U0, U0, U0, U0], [.box (.st [.sl (ps.map Per.lv), .sl (us.map Uni.lv)]), .box (.st [.int .i64 ld, .int .i64 lc, .int .i64 la, .int .i64 lg, .int .i64 lw, .int .i64 lh, .bool lp, .bool lm]), .box x.lv, .box z.lv, .arr 4 1 [.bool false, .bool B1, .bool B2, .bool B3, .bool B4, .bool B5, .bool B6, .bool B7, .bool false, .bool false, .bool false, .bool false, .bool false]], ?_, ?_⟩
  · subst e7
    ((repeat ((conv => whnf); first | refine brT ?_ | refine brF ?_)); conv => whnf)
    (refine ⟨fun h => ?_, fun h => ?_⟩ <;> rw [h])
    · ((repeat ((conv => whnf); first | refine brT ?_ | refine brF ?_)); conv => whnf)
      refine ⟨_, hc7, ?_⟩
      ((repeat ((conv => whnf); first | refine brT ?_ | refine brF ?_)); conv => whnf)
      refine ⟨rfl, rfl, 7, rfl, show 7 < 13 by omega, ?_⟩
      ((repeat ((conv => whnf); first | refine brT ?_ | refine brF ?_)); conv => whnf)
      refine ⟨rfl, 7, [], .bool false, rfl, rfl, rfl, rfl, rfl, _, rfl, ?_⟩
      ((repeat ((conv => whnf); first | refine brT ?_ | refine brF ?_)); conv => whnf)
      refine .inr ⟨[.old 0, .old 1, .old 2, .old 3, .old 4], ?_, ⟨rfl, rfl, rfl, rfl, rfl, rfl, rfl, rfl, rfl, rfl, trivial⟩, rfl⟩
      ((repeat ((conv => whnf); refine ⟨rfl, rfl, ?_⟩)); trivial)
    · ((repeat ((conv => whnf); first | refine brT ?_ | refine brF ?_)); conv => whnf)
      refine ⟨rfl, rfl, 7, rfl, show 7 < 13 by omega, ?_⟩
      ((repeat ((conv => whnf); first | refine brT ?_ | refine brF ?_)); conv => whnf)
      refine ⟨rfl, 7, [], .bool false, rfl, rfl, rfl, rfl, rfl, _, rfl, ?_⟩
      ((repeat ((conv => whnf); first | refine brT ?_ | refine brF ?_)); conv => whnf)
      refine .inr ⟨[.old 0, .old 1, .old 2, .old 3, .old 4], ?_, ⟨rfl, rfl, rfl, rfl, rfl, rfl, rfl, rfl, rfl, rfl, trivial⟩, rfl⟩
      ((repeat ((conv => whnf); refine ⟨rfl, rfl, ?_⟩)); trivial)
  ((repeat ((conv => whnf); first | refine brT ?_ | refine brF ?_)); conv => whnf)
  refine ⟨[.st [.sl (ps.map Per.lv), .sl (us.map Uni.lv)], .st [.int .i64 ld, .int .i64 lc, .int .i64 la, .int .i64 lg, .int .i64 lw, .int .i64 lh, .bool lp, .bool lm], .int .i64 (a : Int), .int .i64 (b : Int), .int .i64 y, .hp 0 0 [], .hp 1 0 [], U0, U0, U0, U0, .hp 2 0 [], .hp 3 0 [], .hs 4 13, .int .i64 cn, .bool ok, U0, U0, U0, U0, U0, U0, U0, U0, U0, U0, U0, U0, U0, U0, U0, U0, U0, U0, U0, U0, U0, U0, U0, U0, U0, U0, U0, U0, U0, U0, U0, U0, U0, U0, U0, U0, U0, U0, U0, U0, U0, U0, U0, U0, U0, U0, U0, U0, U0, U0, U0, U0, U0, U0, U0, U0, U0, U0, U0, U0, U0, U0, U0, U0, U0, U0, U0, U0, U0, U0, U0, U0, U0, U0, U0, U0, U0, U0, U0, U0, U0, U0, U0, U0, U0, U0, U0, U0, U0, U0, U0, U0, U0, U0, U0, U0, U0, U0, U0, U0, U0, U0, U0, U0, U0, U0, U0, U0, U0, U0, U0, U0, U0, U0, U0, U0, U0, U0, U0, U0, U0, U0, U0, U0, U0, U0, U0, U0, U0, U0, U0, U0, U0, U0, U0, U0, U0, U0, U0, U0, U0, U0, U0, U0, U0, U0, U0, U0, U0, U0, U0, U0, U0, U0, U0, U0, U0, U0, U0, U0, U0, U0, U0, U0, U0, U0, U0, U0, U0, U0, U0, U0, U0, U0, U0, U0, U0, U0, U0, U0, U0, U0, U0, U0, U0, U0, U0, U0, U0, U0, U0, U0, U0, U0, U0, U0, U0, U0, U0, U0, U0, U0], [.box (.st [.sl (ps.map Per.lv), .sl (us.map Uni.lv)]), .box (.st [.int .i64 ld, .int .i64 lc, .int .i64 la, .int .i64 lg, .int .i64 lw, .int .i64 lh, .bool lp, .bool lm]), .box x.lv, .box z.lv, .arr 4 1 [.bool false, .bool B1, .bool B2, .bool B3, .bool B4, .bool B5, .bool B6, .bool B7, .bool false, .bool false, .bool false, .bool false, .bool false]], ?_, ?_⟩
  · ((repeat ((conv => whnf); first | refine brT ?_ | refine brF ?_)); conv => whnf)
    refine ⟨_, hcn, ?_⟩
    ((repeat ((conv => whnf); first | refine brT ?_ | refine brF ?_)); conv => whnf)
    refine .inr ⟨[.old 0, .old 1, .old 2, .old 3, .old 4], ?_, ⟨rfl, rfl, rfl, rfl, rfl, rfl, rfl, rfl, rfl, rfl, trivial⟩, rfl⟩
    ((repeat ((conv => whnf); refine ⟨rfl, rfl, ?_⟩)); trivial)
  ((repeat ((conv => whnf); first | refine brT ?_ | refine brF ?_)); conv => whnf)
  refine ⟨[.st [.sl (ps.map Per.lv), .sl (us.map Uni.lv)], .st [.int .i64 ld, .int .i64 lc, .int .i64 la, .int .i64 lg, .int .i64 lw, .int .i64 lh, .bool lp, .bool lm], .int .i64 (a : Int), .int .i64 (b : Int), .int .i64 y, .hp 0 0 [], .hp 1 0 [], U0, U0, U0, U0, .hp 2 0 [], .hp 3 0 [], .hs 4 13, U0, U0, U0, U0, U0, U0, U0, U0, U0, U0, U0, U0, U0, U0, U0, U0, U0, U0, U0, U0, U0, U0, U0, U0, U0, U0, U0, U0, U0, U0, U0, U0, U0, U0, U0, U0, U0, U0, U0, U0, U0, U0, U0, U0, U0, U0, U0, U0, U0, U0, U0, U0, U0, U0, U0, U0, U0, U0, U0, U0, U0, U0, U0, U0, U0, U0, U0, U0, U0, U0, U0, U0, U0, U0, U0, U0, U0, U0, U0, U0, U0, U0, U0, U0, U0, U0, U0, U0, U0, U0, U0, U0, U0, U0, U0, U0, U0, U0, U0, U0, U0, U0, U0, U0, U0, U0, U0, U0, U0, U0, U0, U0, U0, U0, U0, U0, U0, U0, U0, U0, U0, U0, U0, U0, U0, U0, U0, U0, U0, U0, U0, U0, U0, U0, U0, U0, U0, U0, U0, U0, U0, U0, U0, U0, U0, U0, U0, U0, U0, U0, U0, U0, U0, U0, U0, U0, U0, U0, U0, U0, U0, U0, U0, U0, U0, U0, U0, U0, U0, U0, U0, U0, U0, U0, U0, U0, U0, U0, U0, U0, U0, U0, U0, U0, U0, U0, U0, U0, U0, U0, U0, U0, U0, U0, U0, U0, U0, U0, U0, U0, U0, U0, U0, U0], [.box (.st [.sl (ps.map Per.lv), .sl (us.map Uni.lv)]), .box (.st [.int .i64 ld, .int .i64 lc, .int .i64 la, .int .i64 lg, .int .i64 lw, .int .i64 lh, .bool lp, .bool lm]), .box x.lv, .box z.lv, .arr 4 1 [.bool false, .bool B1, .bool B2, .bool B3, .bool B4, .bool B5, .bool B6, .bool B7, .bool B8, .bool false, .bool false, .bool false, .bool false]], ?_, ?_⟩
  · subst e8
    ((repeat ((conv => whnf); first | refine brT ?_ | refine brF ?_)); conv => whnf)
    (refine ⟨fun h => ?_, fun h => ?_⟩ <;> rw [h])
    · ((repeat ((conv => whnf); first | refine brT ?_ | refine brF ?_)); conv => whnf)
      cases ok
      · ((repeat ((conv => whnf); first | refine brT ?_ | refine brF ?_)); conv => whnf)
        refine ⟨rfl, rfl, 8, rfl, show 8 < 13 by omega, ?_⟩
        ((repeat ((conv => whnf); first | refine brT ?_ | refine brF ?_)); conv => whnf)
        refine ⟨rfl, 8, [], .bool false, rfl, rfl, rfl, rfl, rfl, _, rfl, ?_⟩
        ((repeat ((conv => whnf); first | refine brT ?_ | refine brF ?_)); conv => whnf)
        refine .inr ⟨[.old 0, .old 1, .old 2, .old 3, .old 4], ?_, ⟨rfl, rfl, rfl, rfl, rfl, rfl, rfl, rfl, rfl, rfl, trivial⟩, rfl⟩
        ((repeat ((conv => whnf); refine ⟨rfl, rfl, ?_⟩)); trivial)
      · ((repeat ((conv => whnf); first | refine brT ?_ | refine brF ?_)); conv => whnf)
        refine ⟨rfl, rfl, 8, rfl, show 8 < 13 by omega, ?_⟩
        ((repeat ((conv => whnf); first | refine brT ?_ | refine brF ?_)); conv => whnf)
        refine ⟨rfl, 8, [], .bool false, rfl, rfl, rfl, rfl, rfl, _, rfl, ?_⟩
        ((repeat ((conv => whnf); first | refine brT ?_ | refine brF ?_)); conv => whnf)
        refine .inr ⟨[.old 0, .old 1, .old 2, .old 3, .old 4], ?_, ⟨rfl, rfl, rfl, rfl, rfl, rfl, rfl, rfl, rfl, rfl, trivial⟩, rfl⟩
        ((repeat ((conv => whnf); refine ⟨rfl, rfl, ?_⟩)); trivial)
    · ((repeat ((conv => whnf); first | refine brT ?_ | refine brF ?_)); conv => whnf)
      refine ⟨rfl, rfl, 8, rfl, show 8 < 13 by omega, ?_⟩
      ((repeat ((conv => whnf); first | refine brT ?_ | refine brF ?_)); conv => whnf)
      refine ⟨rfl, 8, [], .bool false, rfl, rfl, rfl, rfl, rfl, _, rfl, ?_⟩
      ((repeat ((conv => whnf); first | refine brT ?_ | refine brF ?_)); conv => whnf)
      refine .inr ⟨[.old 0, .old 1, .old 2, .old 3, .old 4], ?_, ⟨rfl, rfl, rfl, rfl, rfl, rfl, rfl, rfl, rfl, rfl, trivial⟩, rfl⟩
      ((repeat ((conv => whnf); refine ⟨rfl, rfl, ?_⟩)); trivial)
  ((repeat ((conv => whnf); first | refine brT ?_ | refine brF ?_)); conv => whnf)
  refine ⟨[.st [.sl (ps.map Per.lv), .sl (us.map Uni.lv)], .st [.int .i64 ld, .int .i64 lc, .int .i64 la, .int .i64 lg, .int .i64 lw, .int .i64 lh, .bool lp, .bool lm], .int .i64 (a : Int), .int .i64 (b : Int), .int .i64 y, .hp 0 0 [], .hp 1 0 [], U0, U0, U0, U0, .hp 2 0 [], .hp 3 0 [], .hs 4 13, U0, U0, U0, U0, U0, U0, U0, U0, U0, U0, U0, U0, U0, U0, U0, U0, U0, U0, U0, U0, U0, U0, U0, U0, U0, U0, U0, U0, U0, U0, U0, U0, U0, U0, U0, U0, U0, U0, U0, U0, U0, U0, U0, U0, U0, U0, U0, U0, U0, U0, U0, U0, U0, U0, U0, U0, U0, U0, U0, U0, U0, U0, U0, U0, U0, U0, U0, U0, U0, U0, U0, U0, U0, U0, U0, U0, U0, U0, U0, U0, U0, U0, U0, U0, U0, U0, U0, U0, U0, U0, U0, U0, U0, U0, U0, U0, U0, U0, U0, U0, U0, U0, U0, U0, U0, U0, U0, U0, U0, U0, U0, U0, U0, U0, U0, U0, U0, U0, U0, U0, U0, U0, U0, U0, U0, U0, U0, U0, U0, U0, U0, U0, U0, U0, U0, U0, U0, U0, U0, U0, U0, U0, U0, U0, U0, U0, U0, U0, U0, U0, U0, U0, U0, U0, U0, U0, U0, U0, U0, U0, U0, U0, U0, U0, U0, U0, U0, U0, U0, U0, U0, U0, U0, U0, U0, U0, U0, U0, U0, U0, U0, U0, U0, U0, U0, U0, U0, U0, U0, U0, U0, U0, U0, U0, U0, U0, U0, U0, U0, U0, U0, U0, U0, U0], [.box (.st [.sl (ps.map Per.lv), .sl (us.map Uni.lv)]), .box (.st [.int .i64 ld, .int .i64 lc, .int .i64 la, .int .i64 lg, .int .i64 lw, .int .i64 lh, .bool lp, .bool lm]), .box x.lv, .box z.lv, .arr 4 1 [.bool false, .bool B1, .bool B2, .bool B3, .bool B4, .bool B5, .bool B6, .bool B7, .bool B8, .bool B9, .bool false, .bool false, .bool false]], ?_, ?_⟩
  · subst e9
    ((repeat ((conv => whnf); first | refine brT ?_ | refine brF ?_)); conv => whnf)
    refine ⟨true, by kernel_rfl, ?_⟩
    ((repeat ((conv => whnf); first | refine brT ?_ | refine brF ?_)); conv => whnf)
    cases lp
    · ((repeat ((conv => whnf); first | refine brT ?_ | refine brF ?_)); conv => whnf)
      refine ⟨rfl, rfl, 9, rfl, show 9 < 13 by omega, ?_⟩
      ((repeat ((conv => whnf); first | refine brT ?_ | refine brF ?_)); conv => whnf)
      refine ⟨rfl, 9, [], .bool false, rfl, rfl, rfl, rfl, rfl, _, rfl, ?_⟩
      ((repeat ((conv => whnf); first | refine brT ?_ | refine brF ?_)); conv => whnf)
      refine .inr ⟨[.old 0, .old 1, .old 2, .old 3, .old 4], ?_, ⟨rfl, rfl, rfl, rfl, rfl, rfl, rfl, rfl, rfl, rfl, trivial⟩, rfl⟩
      ((repeat ((conv => whnf); refine ⟨rfl, rfl, ?_⟩)); trivial)
    · ((repeat ((conv => whnf); first | refine brT ?_ | refine brF ?_)); conv => whnf)
      refine ⟨_, hf1, ?_⟩
      ((repeat ((conv => whnf); first | refine brT ?_ | refine brF ?_)); conv => whnf)
      refine ⟨_, hf2, ?_⟩
      ((repeat ((conv => whnf); first | refine brT ?_ | refine brF ?_)); conv => whnf)
      refine ⟨rfl, rfl, 9, rfl, show 9 < 13 by omega, ?_⟩
      ((repeat ((conv => whnf); first | refine brT ?_ | refine brF ?_)); conv => whnf)
      refine ⟨rfl, 9, [], .bool false, rfl, rfl, rfl, rfl, rfl, _, rfl, ?_⟩
      ((repeat ((conv => whnf); first | refine brT ?_ | refine brF ?_)); conv => whnf)
      refine .inr ⟨[.old 0, .old 1, .old 2, .old 3, .old 4], ?_, ⟨rfl, rfl, rfl, rfl, rfl, rfl, rfl, rfl, rfl, rfl, trivial⟩, rfl⟩
      ((repeat ((conv => whnf); refine ⟨rfl, rfl, ?_⟩)); trivial)
  ((repeat ((conv => whnf); first | refine brT ?_ | refine brF ?_)); conv => whnf)
  refine ⟨[.st [.sl (ps.map Per.lv), .sl (us.map Uni.lv)], .st [.int .i64 ld, .int .i64 lc, .int .i64 la, .int .i64 lg, .int .i64 lw, .int .i64 lh, .bool lp, .bool lm], .int .i64 (a : Int), .int .i64 (b : Int), .int .i64 y, .hp 0 0 [], .hp 1 0 [], U0, U0, U0, U0, .hp 2 0 [], .hp 3 0 [], .hs 4 13, U0, U0, U0, U0, U0, U0, U0, U0, U0, U0, U0, U0, U0, U0, U0, U0, U0, U0, U0, U0, U0, U0, U0, U0, U0, U0, U0, U0, U0, U0, U0, U0, U0, U0, U0, U0, U0, U0, U0, U0, U0, U0, U0, U0, U0, U0, U0, U0, U0, U0, U0, U0, U0, U0, U0, U0, U0, U0, U0, U0, U0, U0, U0, U0, U0, U0, U0, U0, U0, U0, U0, U0, U0, U0, U0, U0, U0, U0, U0, U0, U0, U0, U0, U0, U0, U0, U0, U0, U0, U0, U0, U0, U0, U0, U0, U0, U0, U0, U0, U0, U0, U0, U0, U0, U0, U0, U0, U0, U0, U0, U0, U0, U0, U0, U0, U0, U0, U0, U0, U0, U0, U0, U0, U0, U0, U0, U0, U0, U0, U0, U0, U0, U0, U0, U0, U0, U0, U0, U0, U0, U0, U0, U0, U0, U0, U0, U0, U0, U0, U0, U0, U0, U0, U0, U0, U0, U0, U0, U0, U0, U0, U0, U0, U0, U0, U0, U0, U0, U0, U0, U0, U0, U0, U0, U0, U0, U0, U0, U0, U0, U0, U0, U0, U0, U0, U0, U0, U0, U0, U0, U0, U0, U0, U0, U0, U0, U0, U0, U0, U0, U0, U0, U0, U0], [.box (.st [.sl (ps.map Per.lv), .sl (us.map Uni.lv)]), .box (.st [.int .i64 ld, .int .i64 lc, .int .i64 la, .int .i64 lg, .int .i64 lw, .int .i64 lh, .bool lp, .bool lm]), .box x.lv, .box z.lv, .arr 4 1 [.bool false, .bool B1, .bool B2, .bool B3, .bool B4, .bool B5, .bool B6, .bool B7, .bool B8, .bool B9, .bool B10, .bool false, .bool false]], ?_, ?_⟩
  · subst e10
    ((repeat ((conv => whnf); first | refine brT ?_ | refine brF ?_)); conv => whnf)
    refine ⟨true, by kernel_rfl, ?_⟩
    ((repeat ((conv => whnf); first | refine brT ?_ | refine brF ?_)); conv => whnf)
    cases lm
    · ((repeat ((conv => whnf); first | refine brT ?_ | refine brF ?_)); conv => whnf)
      refine ⟨rfl, rfl, 10, rfl, show 10 < 13 by omega, ?_⟩
      ((repeat ((conv => whnf); first | refine brT ?_ | refine brF ?_)); conv => whnf)
      refine ⟨rfl, 10, [], .bool false, rfl, rfl, rfl, rfl, rfl, _, rfl, ?_⟩
      ((repeat ((conv => whnf); first | refine brT ?_ | refine brF ?_)); conv => whnf)
      refine .inr ⟨[.old 0, .old 1, .old 2, .old 3, .old 4], ?_, ⟨rfl, rfl, rfl, rfl, rfl, rfl, rfl, rfl, rfl, rfl, trivial⟩, rfl⟩
      ((repeat ((conv => whnf); refine ⟨rfl, rfl, ?_⟩)); trivial)
    · ((repeat ((conv => whnf); first | refine brT ?_ | refine brF ?_)); conv => whnf)
      refine ⟨_, hf3, ?_⟩
      ((repeat ((conv => whnf); first | refine brT ?_ | refine brF ?_)); conv => whnf)
      refine ⟨_, hf4, ?_⟩
      ((repeat ((conv => whnf); first | refine brT ?_ | refine brF ?_)); conv => whnf)
      refine ⟨rfl, rfl, 10, rfl, show 10 < 13 by omega, ?_⟩
      ((repeat ((conv => whnf); first | refine brT ?_ | refine brF ?_)); conv => whnf)
      refine ⟨rfl, 10, [], .bool false, rfl, rfl, rfl, rfl, rfl, _, rfl, ?_⟩
      ((repeat ((conv => whnf); first | refine brT ?_ | refine brF ?_)); conv => whnf)
      refine .inr ⟨[.old 0, .old 1, .old 2, .old 3, .old 4], ?_, ⟨rfl, rfl, rfl, rfl, rfl, rfl, rfl, rfl, rfl, rfl, trivial⟩, rfl⟩
      ((repeat ((conv => whnf); refine ⟨rfl, rfl, ?_⟩)); trivial)
  ((repeat ((conv => whnf); first | refine brT ?_ | refine brF ?_)); conv => whnf)
  refine ⟨[.st [.sl (ps.map Per.lv), .sl (us.map Uni.lv)], .st [.int .i64 ld, .int .i64 lc, .int .i64 la, .int .i64 lg, .int .i64 lw, .int .i64 lh, .bool lp, .bool lm], .int .i64 (a : Int), .int .i64 (b : Int), .int .i64 y, .hp 0 0 [], .hp 1 0 [], U0, U0, U0, U0, .hp 2 0 [], .hp 3 0 [], .hs 4 13, U0, U0, U0, U0, U0, U0, U0, U0, U0, U0, U0, U0, U0, U0, U0, U0, U0, U0, U0, U0, U0, U0, U0, U0, U0, U0, U0, U0, U0, U0, U0, U0, U0, U0, U0, U0, U0, U0, U0, U0, U0, U0, U0, U0, U0, U0, U0, U0, U0, U0, U0, U0, U0, U0, U0, U0, U0, U0, U0, U0, U0, U0, U0, U0, U0, U0, U0, U0, U0, U0, U0, U0, U0, U0, U0, U0, U0, U0, U0, U0, U0, U0, U0, U0, U0, U0, U0, U0, U0, U0, U0, U0, U0, U0, U0, U0, U0, U0, U0, U0, U0, U0, U0, U0, U0, U0, U0, U0, U0, U0, U0, U0, U0, U0, U0, U0, U0, U0, U0, U0, U0, U0, U0, U0, U0, U0, U0, U0, U0, U0, U0, U0, U0, U0, U0, U0, U0, U0, U0, U0, U0, U0, U0, U0, U0, U0, U0, U0, U0, U0, U0, U0, U0, U0, U0, U0, U0, U0, U0, U0, U0, U0, U0, U0, U0, U0, U0, U0, U0, U0, U0, U0, U0, U0, U0, U0, U0, U0, U0, U0, U0, U0, U0, U0, U0, U0, U0, U0, U0, U0, U0, U0, U0, U0, U0, U0, U0, U0, U0, U0, U0, U0, U0, U0], [.box (.st [.sl (ps.map Per.lv), .sl (us.map Uni.lv)]), .box (.st [.int .i64 ld, .int .i64 lc, .int .i64 la, .int .i64 lg, .int .i64 lw, .int .i64 lh, .bool lp, .bool lm]), .box x.lv, .box z.lv, .arr 4 1 [.bool false, .bool B1, .bool B2, .bool B3, .bool B4, .bool B5, .bool B6, .bool B7, .bool B8, .bool B9, .bool B10, .bool B11, .bool false]], ?_, ?_⟩
  · subst e11
    ((repeat ((conv => whnf); first | refine brT ?_ | refine brF ?_)); conv => whnf)
    (refine ⟨fun h => ?_, fun h => ?_⟩ <;> rw [h])
    · ((repeat ((conv => whnf); first | refine brT ?_ | refine brF ?_)); conv => whnf)
      refine ⟨_, ha1, ?_⟩
      ((repeat ((conv => whnf); first | refine brT ?_ | refine brF ?_)); conv => whnf)
      cases a1
      · ((repeat ((conv => whnf); first | refine brT ?_ | refine brF ?_)); conv => whnf)
        refine ⟨_, ha2, ?_⟩
        ((repeat ((conv => whnf); first | refine brT ?_ | refine brF ?_)); conv => whnf)
        refine ⟨rfl, rfl, 11, rfl, show 11 < 13 by omega, ?_⟩
        ((repeat ((conv => whnf); first | refine brT ?_ | refine brF ?_)); conv => whnf)
        refine ⟨rfl, 11, [], .bool false, rfl, rfl, rfl, rfl, rfl, _, rfl, ?_⟩
        ((repeat ((conv => whnf); first | refine brT ?_ | refine brF ?_)); conv => whnf)
        refine .inr ⟨[.old 0, .old 1, .old 2, .old 3, .old 4], ?_, ⟨rfl, rfl, rfl, rfl, rfl, rfl, rfl, rfl, rfl, rfl, trivial⟩, rfl⟩
        ((repeat ((conv => whnf); refine ⟨rfl, rfl, ?_⟩)); trivial)
      · ((repeat ((conv => whnf); first | refine brT ?_ | refine brF ?_)); conv => whnf)
        refine ⟨rfl, rfl, 11, rfl, show 11 < 13 by omega, ?_⟩
        ((repeat ((conv => whnf); first | refine brT ?_ | refine brF ?_)); conv => whnf)
        refine ⟨rfl, 11, [], .bool false, rfl, rfl, rfl, rfl, rfl, _, rfl, ?_⟩
        ((repeat ((conv => whnf); first | refine brT ?_ | refine brF ?_)); conv => whnf)
        refine .inr ⟨[.old 0, .old 1, .old 2, .old 3, .old 4], ?_, ⟨rfl, rfl, rfl, rfl, rfl, rfl, rfl, rfl, rfl, rfl, trivial⟩, rfl⟩
        ((repeat ((conv => whnf); refine ⟨rfl, rfl, ?_⟩)); trivial)
    · ((repeat ((conv => whnf); first | refine brT ?_ | refine brF ?_)); conv => whnf)
      refine ⟨rfl, rfl, 11, rfl, show 11 < 13 by omega, ?_⟩
      ((repeat ((conv => whnf); first | refine brT ?_ | refine brF ?_)); conv => whnf)
      refine ⟨rfl, 11, [], .bool false, rfl, rfl, rfl, rfl, rfl, _, rfl, ?_⟩
      ((repeat ((conv => whnf); first | refine brT ?_ | refine brF ?_)); conv => whnf)
      refine .inr ⟨[.old 0, .old 1, .old 2, .old 3, .old 4], ?_, ⟨rfl, rfl, rfl, rfl, rfl, rfl, rfl, rfl, rfl, rfl, trivial⟩, rfl⟩
      ((repeat ((conv => whnf); refine ⟨rfl, rfl, ?_⟩)); trivial)
  ((repeat ((conv => whnf); first | refine brT ?_ | refine brF ?_)); conv => whnf)
  have hU : (us.map Uni.lv).length = us.length := List.length_map ..
  intro _
  ((repeat ((conv => whnf); first | refine brT ?_ | refine brF ?_)); conv => whnf)
  rw [hU]
  refine loop_rule (α := Nat) (fun k => [(193, .int .i64 (k : Int))]) (fun k => [.box (.st [.sl (ps.map Per.lv), .sl (us.map Uni.lv)]), .box (.st [.int .i64 ld, .int .i64 lc, .int .i64 la, .int .i64 lg, .int .i64 lw, .int .i64 lh, .bool lp, .bool lm]), .box x.lv, .box z.lv, .arr 4 1 [.bool false, .bool B1, .bool B2, .bool B3, .bool B4, .bool B5, .bool B6, .bool B7, .bool B8, .bool B9, .bool B10, .bool B11, .bool ((us.take k).any (fun u => otherB (a : Int) u && eqI (otherV (a : Int) u) (b : Int)))]]) (fun k => us.length - k) (fun k => k ≤ us.length) 0 (Nat.zero_le _) ?_ ?_
  · refine ⟨?_, ⟨rfl, rfl, rfl, rfl, rfl, trivial⟩, rfl, rfl⟩
    ((repeat ((conv => whnf); refine ⟨rfl, ?_⟩)); trivial)
  intro k hk
  generalize hK : kk _ = KK
  ((repeat ((conv => whnf); first | refine brT ?_ | refine brF ?_)); conv => whnf)
  (refine ⟨fun g1 => ?_, fun g1 => ?_⟩ <;> rw [g1])
  · have hlt : k < us.length := by rw [ltI_t] at g1; omega
    have e := step_i hlt (by unfold Go.maxLen; omega)
    have hg : (us.map Uni.lv)[k]? = some us[k].lv := by rw [List.getElem?_map, List.getElem?_eq_getElem hlt]; rfl
    have hA : (us.take (k + 1)).any (fun u => otherB (a : Int) u && eqI (otherV (a : Int) u) (b : Int)) = ((us.take k).any (fun u => otherB (a : Int) u && eqI (otherV (a : Int) u) (b : Int)) || (otherB (a : Int) us[k] && eqI (otherV (a : Int) us[k]) (b : Int))) := by
      rw [List.take_succ_eq_append_getElem hlt, List.any_append]; simp
    generalize us[k] = u at hA hg
    have h1 := l1Other_spec u (a : Int)
    generalize otherV (a : Int) u = v at hA h1
    generalize otherB (a : Int) u = c1 at hA h1
    generalize (us.take k).any (fun u => otherB (a : Int) u && eqI (otherV (a : Int) u) (b : Int)) = A at hA ⊢
    ((repeat ((conv => whnf); first | refine brT ?_ | refine brF ?_)); conv => whnf)
    refine ⟨k, u.lv, rfl, hg, rfl, ?_⟩
    ((repeat ((conv => whnf); first | refine brT ?_ | refine brF ?_)); conv => whnf)
    refine ⟨_, h1, ?_⟩
    ((repeat ((conv => whnf); first | refine brT ?_ | refine brF ?_)); conv => whnf)
    refine ⟨rfl, rfl, 12, rfl, show 12 < 13 by omega, ?_⟩
    ((repeat ((conv => whnf); first | refine brT ?_ | refine brF ?_)); conv => whnf)
    refine ⟨rfl, by simp, _, rfl, rfl, ?_⟩
    ((repeat ((conv => whnf); first | refine brT ?_ | refine brF ?_)); conv => whnf)
    cases A
    · ((repeat ((conv => whnf); first | refine brT ?_ | refine brF ?_)); conv => whnf)
      cases c1
      · ((repeat ((conv => whnf); first | refine brT ?_ | refine brF ?_)); conv => whnf)
        refine ⟨rfl, rfl, 12, rfl, show 12 < 13 by omega, ?_⟩
        ((repeat ((conv => whnf); first | refine brT ?_ | refine brF ?_)); conv => whnf)
        refine ⟨rfl, 12, [], _, rfl, rfl, rfl, rfl, rfl, _, rfl, ?_⟩
        ((repeat ((conv => whnf); first | refine brT ?_ | refine brF ?_)); conv => whnf)
        subst hK
        refine round_end (k + 1) hlt (by omega) ⟨?_, ⟨rfl, rfl, rfl, rfl, congrArg (fun V => Blk.arr 4 1 [.bool false, .bool B1, .bool B2, .bool B3, .bool B4, .bool B5, .bool B6, .bool B7, .bool B8, .bool B9, .bool B10, .bool B11, .bool V]) hA.symm, trivial⟩, rfl, rfl⟩
        ((repeat ((conv => whnf); first | refine ⟨e, ?_⟩ | refine ⟨rfl, ?_⟩)); trivial)
      · ((repeat ((conv => whnf); first | refine brT ?_ | refine brF ?_)); conv => whnf)
        refine ⟨rfl, rfl, 12, rfl, show 12 < 13 by omega, ?_⟩
        ((repeat ((conv => whnf); first | refine brT ?_ | refine brF ?_)); conv => whnf)
        refine ⟨rfl, 12, [], _, rfl, rfl, rfl, rfl, rfl, _, rfl, ?_⟩
        ((repeat ((conv => whnf); first | refine brT ?_ | refine brF ?_)); conv => whnf)
        subst hK
        refine round_end (k + 1) hlt (by omega) ⟨?_, ⟨rfl, rfl, rfl, rfl, congrArg (fun V => Blk.arr 4 1 [.bool false, .bool B1, .bool B2, .bool B3, .bool B4, .bool B5, .bool B6, .bool B7, .bool B8, .bool B9, .bool B10, .bool B11, .bool V]) hA.symm, trivial⟩, rfl, rfl⟩
        ((repeat ((conv => whnf); first | refine ⟨e, ?_⟩ | refine ⟨rfl, ?_⟩)); trivial)
    · ((repeat ((conv => whnf); first | refine brT ?_ | refine brF ?_)); conv => whnf)
      refine ⟨rfl, rfl, 12, rfl, show 12 < 13 by omega, ?_⟩
      ((repeat ((conv => whnf); first | refine brT ?_ | refine brF ?_)); conv => whnf)
      refine ⟨rfl, 12, [], _, rfl, rfl, rfl, rfl, rfl, _, rfl, ?_⟩
      ((repeat ((conv => whnf); first | refine brT ?_ | refine brF ?_)); conv => whnf)
      subst hK
      refine round_end (k + 1) hlt (by omega) ⟨?_, ⟨rfl, rfl, rfl, rfl, congrArg (fun V => Blk.arr 4 1 [.bool false, .bool B1, .bool B2, .bool B3, .bool B4, .bool B5, .bool B6, .bool B7, .bool B8, .bool B9, .bool B10, .bool B11, .bool V]) hA.symm, trivial⟩, rfl, rfl⟩
      ((repeat ((conv => whnf); first | refine ⟨e, ?_⟩ | refine ⟨rfl, ?_⟩)); trivial)
  · have h4 : k = us.length := by rw [ltI_f] at g1; omega
    subst h4
    subst hK
    rw [List.take_length, ← e12]
    ((repeat ((conv => whnf); first | refine brT ?_ | refine brF ?_)); conv => whnf)
    exact ⟨rfl, rfl, rfl, rfl, by simp⟩
end Go.Proofs.YtgkjafmmekjjlaaGreat
namespace Go.Proofs.YtgkjafmmekjjlaaGreat
open Go.Lg
def boolsLV (row : List Bool) : LV := .sl (row.map bLV)
def listedTo (row : List Bool) (k : Nat) : List Int := ((List.range k).filter fun a => row.getD a false).map Int.ofNat
theorem listedTo_succ (row : List Bool) (k : Nat) : listedTo row (k + 1) = listedTo row k ++ (match row.getD k false with | true => [(k : Int)] | false => []) := by
  unfold listedTo
  rw [List.range_succ, List.filter_append, List.map_append]
  have hf : List.filter (fun a => row.getD a false) [k] = (match row.getD k false with | true => [k] | false => []) := by
    rw [List.filter_cons]
    show (if row.getD k false = true then [k] else []) = _
    cases row.getD k false <;> rfl
  rw [hf]
  cases row.getD k false <;> rfl
theorem listedTo_len (row : List Bool) (k : Nat) : (listedTo row k).length ≤ k := by
  unfold listedTo
  rw [List.length_map]
  exact Nat.le_trans (List.length_filter_le _ _) (by simp)
end Go.Proofs.YtgkjafmmekjjlaaGreat
namespace Go.Proofs.YtgkjafmmekjjlaaGreat
open Go.Lg Go.Pm
theorem l3Listed_h (row : List Bool) (hN : row.length ≤ 1048576) : HSpec env.P 44 [boolsLV row] [] (.hs 0 ((listedTo row row.length).map intLV).length) [.arr 3 1 ((listedTo row row.length).map intLV)] := by
  refine HSpec_of_code (E := env.x [] 0) env_ok.x (fn := Tryz.f44) Tryz.func44 rfl Tryz.call44 _ _ _ _ ?_
  have er : (row.map bLV).length = row.length := List.length_map ..
  ((repeat ((conv => whnf); first | refine brT ?_ | refine brF ?_)); conv => whnf)
  intro hm
  ((repeat ((conv => whnf); first | refine brT ?_ | refine brF ?_)); conv => whnf)
  rw [er]
  refine loop_ruleR (α := Nat) [.old 0] (fun k => [(9, .int .i64 (k : Int)), (6, .undef), (3, .hs 0 ((listedTo row k).map intLV).length)]) (fun k => [.arr 3 1 ((listedTo row k).map intLV)]) (fun k => row.length - k) (fun k => k ≤ row.length) 0 (Nat.zero_le _) ?_ ?_
  · refine ⟨?_, ⟨rfl, rfl, trivial⟩, rfl⟩
    ((repeat ((conv => whnf); refine ⟨rfl, rfl, ?_⟩)); trivial)
  intro k hk
  ((repeat ((conv => whnf); first | refine brT ?_ | refine brF ?_)); conv => whnf)
  (refine ⟨fun h1 => ?_, fun h1 => ?_⟩ <;> rw [h1])
  · have hlt : k < row.length := by rw [ltI_t] at h1; omega
    have hll := listedTo_len row k
    have e := step_i hlt (by unfold Go.maxLen; omega)
    have hgd : row.getD k false = row[k] := by simp [hlt]
    have hsucc := listedTo_succ row k
    rw [hgd] at hsucc
    ((repeat ((conv => whnf); first | refine brT ?_ | refine brF ?_)); conv => whnf)
    refine ⟨k, bLV row[k], rfl, by simp [hlt], rfl, ?_⟩
    ((repeat ((conv => whnf); first | refine brT ?_ | refine brF ?_)); conv => whnf)
    (refine ⟨fun h3 => ?_, fun h3 => ?_⟩ <;> rw [h3])
    · have e2 : (listedTo row k).map intLV ++ [LV.int .i64 (k : Int)] = (listedTo row (k + 1)).map intLV := by rw [hsucc, h3, List.map_append]; rfl
      have e3 : LV.hs 0 ((listedTo row k).map intLV ++ [LV.int .i64 (k : Int)]).length = LV.hs 0 ((listedTo row (k + 1)).map intLV).length := by rw [e2]
      ((repeat ((conv => whnf); first | refine brT ?_ | refine brF ?_)); conv => whnf)
      refine ⟨rfl, rfl, ?_, ?_, ?_⟩
      · rw [List.length_append, List.length_map]; unfold Go.maxLen; simp; omega
      · rw [List.length_append, List.length_map]; simp; omega
      ((repeat ((conv => whnf); first | refine brT ?_ | refine brF ?_)); conv => whnf)
      refine round_endR [.old 2] (k + 1) hlt (by omega) ⟨?_, ⟨rfl, congrArg (Blk.arr 3 1) e2, trivial⟩, rfl⟩
      (repeat ((conv => whnf); first | refine ⟨rfl, e, ?_⟩ | refine ⟨rfl, e3, ?_⟩ | refine ⟨rfl, rfl, ?_⟩))
      trivial
    · have e2 : listedTo row k = listedTo row (k + 1) := by rw [hsucc, h3]; simp
      have e3 : LV.hs 0 ((listedTo row k).map intLV).length = LV.hs 0 ((listedTo row (k + 1)).map intLV).length := by rw [e2]
      ((repeat ((conv => whnf); first | refine brT ?_ | refine brF ?_)); conv => whnf)
      refine round_endR [.old 0] (k + 1) hlt (by omega) ⟨?_, ⟨rfl, by rw [e2]; rfl, trivial⟩, rfl⟩
      (repeat ((conv => whnf); first | refine ⟨rfl, e, ?_⟩ | refine ⟨rfl, e3, ?_⟩ | refine ⟨rfl, rfl, ?_⟩))
      trivial
  · have h3 : k = row.length := by rw [ltI_f] at h1; omega
    subst h3
    ((repeat ((conv => whnf); first | refine brT ?_ | refine brF ?_)); conv => whnf)
    exact ⟨[.hs 0 ((listedTo row row.length).map intLV).length], rfl, rfl, .inl ⟨⟨rfl, trivial⟩, ⟨rfl, trivial⟩, rfl, rfl⟩⟩
def barV (l : Lw) (ps : List Per) (us : List Uni) (a b : Nat) (y : Int) (x z : Per) : List Bool :=
  [notB (eqI x.sex 1) || notB (eqI z.sex 2), outL y x || outL y z, earlyL l y x || earlyL l y z, leI l.wives ((othersTo (keepAt ps y) a us us.length).length : Int), leI l.husbands ((othersTo (keepAt ps y) b us us.length).length : Int),
   leI 0 (upd ps a b) || leI 0 (upd ps b a), withinB l.degree (linksL ps us a b), canonB l.canon (linksL ps us a b), l.patri && eqI (foAt ps 1 a) (foAt ps 1 b), l.matri && eqI (foAt ps 2 a) (foAt ps 2 b),
   affL l ps us y a b || affL l ps us y b a, (othersTo yesU a us us.length).any fun v => eqI (b : Int) v]
def ixQ (V : List Bool) (n : Int) : Bool := V.getD (n.toNat - 1) false
theorem imp_list (B1 B2 B3 B4 B5 B6 B7 B8 B9 B10 B11 B12 : Bool) :
    listedTo [false, B1, B2, B3, B4, B5, B6, B7, B8, B9, B10, B11, B12] 13 = impTo (ixQ [B1, B2, B3, B4, B5, B6, B7, B8, B9, B10, B11, B12]) barsL 12 := by
  rw [listedTo_succ, listedTo_succ, listedTo_succ, listedTo_succ, listedTo_succ, listedTo_succ, listedTo_succ, listedTo_succ, listedTo_succ, listedTo_succ, listedTo_succ, listedTo_succ, listedTo_succ]
  rw [impTo_succ _ barsL (k := 11) (by decide), impTo_succ _ barsL (k := 10) (by decide), impTo_succ _ barsL (k := 9) (by decide), impTo_succ _ barsL (k := 8) (by decide), impTo_succ _ barsL (k := 7) (by decide), impTo_succ _ barsL (k := 6) (by decide),
    impTo_succ _ barsL (k := 5) (by decide), impTo_succ _ barsL (k := 4) (by decide), impTo_succ _ barsL (k := 3) (by decide), impTo_succ _ barsL (k := 2) (by decide), impTo_succ _ barsL (k := 1) (by decide), impTo_succ _ barsL (k := 0) (by decide)]
  rfl
theorem others_any (keep : Uni → Bool) (p : Int) (us : List Uni) (f : Int → Bool) : (othersTo keep p us us.length).any f = us.any fun u => (otherB p u && keep u) && f (otherV p u) := by
  unfold othersTo
  rw [List.take_length, List.any_flatMap]
  congr 1
  funext u
  rw [other_eq2]
  cases otherB p u && keep u <;> simp
theorem union_eq (a b : Int) (us : List Uni) : ((othersTo yesU a us us.length).any fun v => eqI b v) = us.any fun u => otherB a u && eqI (otherV a u) b := by
  rw [others_any]
  congr 1
  funext u
  rw [eqI_comm b]
  simp [yesU]
theorem aff_eq (l : Lw) (ps : List Per) (us : List Uni) (y p q : Int) : affL l ps us y p q = (notB (eqI l.affinity 0) && us.any (afP ps us p q y l.affinity)) := by
  unfold affL
  rw [others_any]
  cases h : eqI l.affinity 0 with
  | true =>
    rw [show notB true = false by simp [notB], Bool.false_and, List.any_eq_false]
    intro u _
    unfold kinQ withinB
    rw [h]
    simp
  | false =>
    rw [show notB false = true by simp [notB], Bool.true_and]
    congr 1
    funext u
    unfold kinQ withinB afP keepY closeB
    rw [h]
    cases otherB p u <;> cases leI u.since y <;> simp
theorem within_eq (n : Int) (L : List (Int × Int)) : withinB n L = (notB (eqI n 0) && closeB n L) := by
  unfold withinB closeB
  cases eqI n 0 <;> simp [notB]
theorem canon_eq (n : Int) (L : List (Int × Int)) : canonB n L = (notB (eqI n 0) && (lkB L && leI (cnR L) n)) := by
  unfold canonB
  cases eqI n 0 <;> simp [notB]
def impedL (l : Lw) (ps : List Per) (us : List Uni) (a b y : Int) : List Int := match lawOk l && (hasP ps us a && hasP ps us b) with
  | true => (match ps[a.toNat]?, ps[b.toNat]? with
    | some x, some z => impTo (ixQ (barV l ps us a.toNat b.toNat y x z)) barsL 12
    | _, _ => [])
  | false => []
theorem bars_all (l : Lw) (ps : List Per) (us : List Uni) (a b : Nat) (y : Int) (hf : famOk ps us = true) (ha : a < ps.length) (hb : b < ps.length) (pa : hasP ps us a = true) (pb : hasP ps us b = true) :
    ∀ x ∈ barsL, FSpec env.P x.2 [cLV l ps us (fos ps 1) (fos ps 2), mLV a b y] (.bool (ixQ (barV l ps us a b y ps[a] ps[b]) x.1)) := by
  have hh : (hasP ps us a && hasP ps us b) = true := by rw [pa, pb]; rfl
  have f1 := fos_get (ps := ps) (sx := 1) ha
  have f2 := fos_get (ps := ps) (sx := 1) hb
  have f3 := fos_get (ps := ps) (sx := 2) ha
  have f4 := fos_get (ps := ps) (sx := 2) hb
  have l1 : a < (fos ps 1).length := by rw [fos_len]; exact ha
  have l2 : b < (fos ps 1).length := by rw [fos_len]; exact hb
  have l3 : a < (fos ps 2).length := by rw [fos_len]; exact ha
  have l4 : b < (fos ps 2).length := by rw [fos_len]; exact hb
  rw [List.getElem?_eq_getElem l1, Option.some.injEq] at f1
  rw [List.getElem?_eq_getElem l2, Option.some.injEq] at f2
  rw [List.getElem?_eq_getElem l3, Option.some.injEq] at f3
  rw [List.getElem?_eq_getElem l4, Option.some.injEq] at f4
  have hp := patri_spec l ps us (fos ps 1) (fos ps 2) a b y l1 l2
  have hm := matri_spec l ps us (fos ps 1) (fos ps 2) a b y l3 l4
  rw [f1, f2] at hp
  rw [f3, f4] at hm
  intro x hx
  simp only [barsL, List.mem_cons, List.not_mem_nil, or_false] at hx
  rcases hx with rfl | rfl | rfl | rfl | rfl | rfl | rfl | rfl | rfl | rfl | rfl | rfl
  · exact wrongSex_spec l ps us _ _ a b y ha hb
  · exact outside_spec l ps us _ _ a b y ha hb
  · exact early_spec l ps us _ _ a b y ha hb
  · exact hasWives_spec l ps us _ _ a b y hf
  · exact hasHusbands_spec l ps us _ _ a b y hf
  · exact lineal_spec l ps us _ _ a b y hf ha hb
  · exact withinDegree_spec l ps us _ _ a b y hh
  · exact withinCanon_spec l ps us _ _ a b y hh
  · exact hp
  · exact hm
  · exact affine_spec l ps us _ _ a b y hf pa pb
  · exact isUnion_spec l ps us _ _ a b y hf
end Go.Proofs.YtgkjafmmekjjlaaGreat
