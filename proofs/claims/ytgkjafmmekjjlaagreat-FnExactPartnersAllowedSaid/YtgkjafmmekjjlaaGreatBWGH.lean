/- Contracts of functions of the program and of its model, told over readings. -/
import Derived.Test.YtgkjafmmekjjlaaGreatBWGG
import Derived.Test.YtgkjafmmekjjlaaGreatBWGE
import Derived.Test.YtgkjafmmekjjlaaGreatBWGA
import Derived.Test.YtgkjafmmekjjlaaGreatBLgW
import Derived.Test.YtgkjafmmekjjlaaGreatBWGD
namespace Go.Proofs.YtgkjafmmekjjlaaGreat
open Go.Lg Go.Pm
set_option maxHeartbeats 3200000
set_option maxRecDepth 10000
set_option linter.unusedVariables false
set_option linter.unusedSimpArgs false

/-! ### Whom may a person marry? -/
theorem sex12 {ps : List Per} {us : List Uni} (h : famOk ps us = true) {k : Nat} (hk : k < ps.length) : ps[k].sex = 1 ∨ ps[k].sex = 2 := by
  have hp := (famOk_parts h).2.2.1
  unfold personsTo at hp
  rw [List.all_eq_true] at hp
  have := hp k (List.mem_range.2 hk)
  rw [List.getElem?_eq_getElem hk] at this
  exact (personOk_spec this).2.2.1
theorem hasP_of {ps : List Per} {us : List Uni} (h : famOk ps us = true) {k : Nat} (hk : k < ps.length) : hasP ps us (k : Int) = true := by
  unfold hasP
  simp only [Bool.and_eq_true, leI_t, ltI_t]
  exact ⟨by omega, by omega, h⟩
def okM (l : Lw) (ps : List Per) (us : List Uni) (y : Int) (n m : Nat) : Bool := eqI ((impedL l ps us n m y).length : Int) 0
theorem may_ok {l : Lw} {ps : List Per} {us : List Uni} {y : Int} {n m : Nat} (hL : lawOk l = true) (pa : hasP ps us n = true) (pb : hasP ps us m = true) : mayB l ps us n m y = okM l ps us y n m := by
  unfold mayB okM; rw [hL, pa, pb]; rfl
theorem allows_spec (l : Lw) (ps : List Per) (us : List Uni) (n m : Nat) (y : Int) (hL : lawOk l = true) (hf : famOk ps us = true) (al : n < ps.length) (bl : m < ps.length) :
    FSpec env.P 56 [cLV l ps us (fos ps 1) (fos ps 2), mLV n m y] (.bool (okM l ps us y n m)) := by
  have pa := hasP_of hf al
  have pb := hasP_of hf bl
  have hi := ints_f (imps_h l ps us (fos ps 1) (fos ps 2) n m y _ barsL bars_spec (by decide) (bars_all l ps us n m y hf al bl pa pb))
  have e : impTo (ixQ (barV l ps us n m y ps[n] ps[m])) barsL barsL.length = impedL l ps us n m y := by
    unfold impedL
    rw [hL, pa, pb, Int.toNat_natCast, Int.toNat_natCast, List.getElem?_eq_getElem al, List.getElem?_eq_getElem bl]
    rfl
  rw [e] at hi
  unfold okM
  generalize impedL l ps us n m y = R at hi ⊢
  have hR : ((R.map intLV).length : Int) = (R.length : Int) := by simp
  obtain ⟨ld, lc, la, lg, lw, lh, lp, lm⟩ := l
  unfold cLV at hi ⊢
  unfold upL at hi ⊢
  refine FSpec_of_code env_ok (fn := Tryz.f56) Tryz.func56 rfl Tryz.call56 _ _ ?_
  ((repeat ((conv => whnf); first | refine brT ?_ | refine brF ?_)); conv => whnf)
  refine ⟨_, hi, ?_⟩
  rw [show flatT (rowOw R) = true from flat_ints R]
  ((repeat ((conv => whnf); first | refine brT ?_ | refine brF ?_)); conv => whnf)
  intro _
  ((repeat ((conv => whnf); first | refine brT ?_ | refine brF ?_)); conv => whnf)
  rw [hR]
  exact fin rfl
def paQ (l : Lw) (ps : List Per) (us : List Uni) (y : Int) (p : Nat) (s : Int) (q : Nat) : Bool := match eqI s 2 with
  | true => okM l ps us y q p
  | false => okM l ps us y p q
theorem partner1_spec (l : Lw) (ps : List Per) (us : List Uni) (y : Int) (p q : Nat) (hL : lawOk l = true) (hf : famOk ps us = true) (hp : p < ps.length) (hq : q < ps.length) :
    FSpec env.P 98 [.int .i64 (q : Int), .ref (cLV l ps us (fos ps 1) (fos ps 2)), .ref (.int .i64 (p : Int)), .ref (.int .i64 y)] (.bool (paQ l ps us y p ps[p].sex q)) := by
  have h1 := allows_spec l ps us q p y hL hf hq hp
  have h2 := allows_spec l ps us p q y hL hf hp hq
  have hx := per_get hp
  unfold paQ
  generalize okM l ps us y q p = m1 at h1 ⊢
  generalize okM l ps us y p q = m2 at h2 ⊢
  generalize ps[p] = x at hx ⊢
  obtain ⟨ld, lc, la, lg, lw, lh, lp, lm⟩ := l
  unfold cLV at h1 h2 ⊢
  unfold upL at h1 h2 ⊢
  refine FSpec_of_code env_ok (fn := Tryz.f98) Tryz.func98 rfl Tryz.call98 _ _ ?_
  ((repeat ((conv => whnf); first | refine brT ?_ | refine brF ?_)); conv => whnf)
  refine ⟨p, x.lv, rfl, hx, rfl, ?_⟩
  ((repeat ((conv => whnf); first | refine brT ?_ | refine brF ?_)); conv => whnf)
  (refine ⟨fun g => ?_, fun g => ?_⟩ <;> rw [g])
  · ((repeat ((conv => whnf); first | refine brT ?_ | refine brF ?_)); conv => whnf)
    refine ⟨_, h1, ?_⟩
    ((repeat ((conv => whnf); first | refine brT ?_ | refine brF ?_)); conv => whnf)
    exact fin rfl
  · ((repeat ((conv => whnf); first | refine brT ?_ | refine brF ?_)); conv => whnf)
    refine ⟨_, h2, ?_⟩
    ((repeat ((conv => whnf); first | refine brT ?_ | refine brF ?_)); conv => whnf)
    exact fin rfl
def paL (l : Lw) (ps : List Per) (us : List Uni) (p y : Int) : List Nat := match lawOk l && hasP ps us p with
  | true => (match ps[p.toNat]? with | some x => wantL (paQ l ps us y p.toNat x.sex) ps.length | none => [])
  | false => []
theorem paL_len (l : Lw) (ps : List Per) (us : List Uni) (p y : Int) : (paL l ps us p y).length ≤ 40 := by
  unfold paL
  split
  · rename_i h
    have := fam_40 (hasP_lt (Bool.and_eq_true_iff.1 h).2).2.2
    split
    · exact Nat.le_trans (wantL_len _ _) this
    · simp
  · simp
theorem partnersOf9_h (l : Lw) (ps : List Per) (us : List Uni) (y : Int) (p : Nat) (hL : lawOk l = true) (hf : famOk ps us = true) (hp : p < ps.length) :
    HSpec env.P 58 [cLV l ps us (fos ps 1) (fos ps 2), .int .i64 (p : Int), .int .i64 y] [] (.hs 0 (rowW (paQ l ps us y p ps[p].sex) ps.length).length) [.arr 3 1 (rowW (paQ l ps us y p ps[p].sex) ps.length)] := by
  have hw := people3_h ps us 98 (cLV l ps us (fos ps 1) (fos ps 2)) (.int .i64 (p : Int)) (.int .i64 y) (paQ l ps us y p ps[p].sex) (fam_40 hf) (fun i hi => partner1_spec l ps us y p i hL hf hp hi)
  generalize paQ l ps us y p ps[p].sex = q at hw ⊢
  obtain ⟨ld, lc, la, lg, lw, lh, lp, lm⟩ := l
  unfold cLV at hw ⊢
  unfold upL at hw ⊢
  refine HSpec_of_code (E := env.x [97] 0) env_ok.x (fn := Tryz.f58) Tryz.func58 rfl Tryz.call58 _ _ _ _ ?_
  ((repeat ((conv => whnf); first | refine brT ?_ | refine brF ?_)); conv => whnf)
  refine ⟨[], _, _, _, _, hw, rfl, rfl, rfl, ⟨rfl, flats_rowW _ _, trivial⟩, ?_⟩
  ((repeat ((conv => whnf); first | refine brT ?_ | refine brF ?_)); conv => whnf)
  exact ⟨[.hs 0 (rowW q ps.length).length], rfl, rfl, .inr ⟨[.old 3], ⟨rfl, rfl, trivial⟩, ⟨rfl, rfl, trivial⟩, rfl⟩⟩
theorem pa_impl (l : Lw) (ps : List Per) (us : List Uni) (p y : Int) :
    HSpec env.P 22 [famLV ps us, l.lv, .int .i64 p, .int .i64 y] [] (.hs 0 ((paL l ps us p y).map natLV).length) [.arr 3 1 ((paL l ps us p y).map natLV)] := by
  have h1 := isLaw_impl l
  have hC := courtOf_spec l ps us
  have hP := fun n => partnersOf9_h l ps us y n
  unfold paL
  generalize hLL : lawOk l = L at h1 hP ⊢
  obtain ⟨ld, lc, la, lg, lw, lh, lp, lm⟩ := l
  refine HSpec_of_code (E := env.x [58] 0) env_ok.x (fn := Tryz.f22) Tryz.func22 rfl Tryz.call22 _ _ _ _ ?_
  ((repeat ((conv => whnf); first | refine brT ?_ | refine brF ?_)); conv => whnf)
  refine ⟨_, h1, ?_⟩
  ((repeat ((conv => whnf); first | refine brT ?_ | refine brF ?_)); conv => whnf)
  cases L
  · rw [show notB false = true by simp [notB]]
    ((repeat ((conv => whnf); first | refine brT ?_ | refine brF ?_)); conv => whnf)
    exact ⟨[.hs 0 0], rfl, rfl, .nl [.tmp 0 [] false 3 1] [.old 2] ⟨⟨rfl, rfl, trivial⟩, ⟨rfl, rfl, trivial⟩, rfl⟩⟩
  rw [show notB true = false by simp [notB]]
  ((repeat ((conv => whnf); first | refine brT ?_ | refine brF ?_)); conv => whnf)
  refine ⟨_, hasPerson_spec ps us p, ?_⟩
  ((repeat ((conv => whnf); first | refine brT ?_ | refine brF ?_)); conv => whnf)
  cases pa : hasP ps us p
  · rw [show notB false = true by simp [notB]]
    ((repeat ((conv => whnf); first | refine brT ?_ | refine brF ?_)); conv => whnf)
    exact ⟨[.hs 0 0], rfl, rfl, .nl [.tmp 0 [] false 3 1] [.old 2] ⟨⟨rfl, rfl, trivial⟩, ⟨rfl, rfl, trivial⟩, rfl⟩⟩
  rw [show notB true = false by simp [notB]]
  obtain ⟨p0, pl, hf⟩ := hasP_lt pa
  obtain ⟨n, rfl⟩ : ∃ n : Nat, p = (n : Int) := ⟨p.toNat, by omega⟩
  rw [Int.toNat_natCast] at pl ⊢
  have hc := hC hf
  have hp := hP n rfl hf pl
  rw [List.getElem?_eq_getElem pl]
  unfold cLV upL at hc hp
  ((repeat ((conv => whnf); first | refine brT ?_ | refine brF ?_)); conv => whnf)
  refine ⟨_, hc, ?_⟩
  ((repeat ((conv => whnf); first | refine brT ?_ | refine brF ?_)); conv => whnf)
  refine ⟨[], _, _, _, _, hp, rfl, rfl, rfl, trivial, ?_⟩
  ((repeat ((conv => whnf); first | refine brT ?_ | refine brF ?_)); conv => whnf)
  exact ⟨[.hs 0 _], rfl, rfl, .inr ⟨[.old 2], ⟨rfl, rfl, trivial⟩, ⟨rfl, rfl, trivial⟩, rfl⟩⟩
theorem pa_spec (l : Lw) (ps : List Per) (us : List Uni) (p y : Int) :
    HSpec env.P 21 [famLV ps us, l.lv, .int .i64 p, .int .i64 y] [] (.hs 0 ((paL l ps us p y).map natLV).length) [.arr 3 1 ((paL l ps us p y).map natLV)] := by
  have h1 := isLaw_spec l
  have hM := fun n m => may_spec l ps us n m y
  have hMo := fun (n m : Nat) (hL : lawOk l = true) pa pb => may_ok (l := l) (ps := ps) (us := us) (y := y) (n := n) (m := m) hL pa pb
  unfold paL paQ
  generalize okM l ps us y = ok at hMo ⊢
  generalize mayB l ps us = mb at hM hMo
  generalize hLL : lawOk l = L at h1 hMo ⊢
  obtain ⟨ld, lc, la, lg, lw, lh, lp, lm⟩ := l
  refine HSpec_of_code (E := env.x [] 0) env_ok.x (fn := Tryz.f21) Tryz.func21 rfl Tryz.call21 _ _ _ _ ?_
  ((repeat ((conv => whnf); first | refine brT ?_ | refine brF ?_)); conv => whnf)
  refine ⟨_, h1, ?_⟩
  ((repeat ((conv => whnf); first | refine brT ?_ | refine brF ?_)); conv => whnf)
  cases L
  · rw [show notB false = true by simp [notB]]
    ((repeat ((conv => whnf); first | refine brT ?_ | refine brF ?_)); conv => whnf)
    exact ⟨[.hs 0 0], rfl, rfl, .nl [.tmp 0 [] false 3 1] [.old 2] ⟨⟨rfl, rfl, trivial⟩, ⟨rfl, rfl, trivial⟩, rfl⟩⟩
  rw [show notB true = false by simp [notB]]
  ((repeat ((conv => whnf); first | refine brT ?_ | refine brF ?_)); conv => whnf)
  refine ⟨_, l1Has_spec ps us p, ?_⟩
  ((repeat ((conv => whnf); first | refine brT ?_ | refine brF ?_)); conv => whnf)
  cases pa : hasP ps us p
  · rw [show notB false = true by simp [notB]]
    ((repeat ((conv => whnf); first | refine brT ?_ | refine brF ?_)); conv => whnf)
    exact ⟨[.hs 0 0], rfl, rfl, .nl [.tmp 0 [] false 3 1] [.old 2] ⟨⟨rfl, rfl, trivial⟩, ⟨rfl, rfl, trivial⟩, rfl⟩⟩
  rw [show notB true = false by simp [notB]]
  obtain ⟨p0, pl, hf⟩ := hasP_lt pa
  obtain ⟨n, rfl⟩ : ∃ n : Nat, p = (n : Int) := ⟨p.toNat, by omega⟩
  rw [Int.toNat_natCast] at pl ⊢
  have hx := per_get pl
  have hs := sex12 hf pl
  have h40 := fam_40 hf
  have hP : (ps.map Per.lv).length = ps.length := List.length_map ..
  have hp' : ps.length ≤ Go.maxLen := by unfold Go.maxLen; omega
  rw [List.getElem?_eq_getElem pl]
  generalize ps[n] = x at hx hs ⊢
  have hQ : ∀ k, k < ps.length → mb n k y = ok n k ∧ mb k n y = ok k n := fun k hk => ⟨hMo n k rfl pa (hasP_of hf hk), hMo k n rfl (hasP_of hf hk) pa⟩
  generalize hq : (fun q => match eqI x.sex 2 with | true => ok q n | false => ok n q) = Q
  have hqk : ∀ k, Q k = match eqI x.sex 2 with | true => ok k n | false => ok n k := fun k => by rw [← hq]
  ((repeat ((conv => whnf); first | refine brT ?_ | refine brF ?_)); conv => whnf)
  intro _
  rw [hP]
  ((repeat ((conv => whnf); first | refine brT ?_ | refine brF ?_)); conv => whnf)
  refine loop_ruleR (α := Nat) [.old 0, .old 1, .old 2] (fun k => [(20, .undef), (24, .int .i64 (k : Int)), (9, .hs 2 (rowW Q k).length)]) (fun k => [.box (famLV ps us), .box (.st [.int .i64 ld, .int .i64 lc, .int .i64 la, .int .i64 lg, .int .i64 lw, .int .i64 lh, .bool lp, .bool lm]), .arr 3 1 (rowW Q k)]) (fun k => ps.length - k) (fun k => k ≤ ps.length) 0 (Nat.zero_le _) ?_ ?_
  · refine ⟨?_, ⟨rfl, rfl, rfl, rfl, rfl, rfl, trivial⟩, rfl⟩
    ((repeat ((conv => whnf); refine ⟨rfl, rfl, ?_⟩)); trivial)
  intro k hk
  generalize hK : kk _ = KK
  ((repeat ((conv => whnf); first | refine brT ?_ | refine brF ?_)); conv => whnf)
  (refine ⟨fun g1 => ?_, fun g1 => ?_⟩ <;> rw [g1])
  · have hlt : k < ps.length := by rw [ltI_t] at g1; omega
    have e := step_i hlt hp'
    have hw := wantL_succ Q k
    have hwl := wantL_len Q (k + 1)
    obtain ⟨q1, q2⟩ := hQ k hlt
    have hM1 := hM n k
    have hM2 := hM k n
    rw [q1] at hM1
    rw [q2] at hM2
    have hqk := hqk k
    generalize ok n k = m1 at hM1 hqk
    generalize ok k n = m2 at hM2 hqk
    ((repeat ((conv => whnf); first | refine brT ?_ | refine brF ?_)); conv => whnf)
    refine ⟨n, x.lv, rfl, hx, rfl, ?_⟩
    ((repeat ((conv => whnf); first | refine brT ?_ | refine brF ?_)); conv => whnf)
    have yes : Q k = true → rowW Q k ++ [LV.int .i64 (k : Int)] = rowW Q (k + 1) := fun h => by
      rw [h] at hw; unfold rowW; rw [hw, List.map_append]; rfl
    have no : Q k = false → rowW Q k = rowW Q (k + 1) := fun h => by
      rw [h, List.append_nil] at hw; unfold rowW; rw [hw]
    have hl1 : (rowW Q (k + 1)).length ≤ k + 1 := by unfold rowW; rw [List.length_map]; exact hwl
    rcases hs with hs | hs
    · have c1 : eqI x.sex 1 = true := by rw [hs, eqI_refl]
      have c2 : eqI x.sex 2 = false := by rw [hs, eqI_f]; omega
      rw [c2] at hqk
      rw [c1]
      ((repeat ((conv => whnf); first | refine brT ?_ | refine brF ?_)); conv => whnf)
      refine ⟨_, hM1, ?_⟩
      ((repeat ((conv => whnf); first | refine brT ?_ | refine brF ?_)); conv => whnf)
      cases m1
      · have e2 := no hqk
        have e3 : LV.hs 2 (rowW Q k).length = LV.hs 2 (rowW Q (k + 1)).length := by rw [e2]
        ((repeat ((conv => whnf); first | refine brT ?_ | refine brF ?_)); conv => whnf)
        refine ⟨n, x.lv, rfl, hx, rfl, ?_⟩
        ((repeat ((conv => whnf); first | refine brT ?_ | refine brF ?_)); conv => whnf)
        rw [c2]
        ((repeat ((conv => whnf); first | refine brT ?_ | refine brF ?_)); conv => whnf)
        subst hK
        refine round_endR [.old 0, .old 1, .old 2] (k + 1) hlt (by omega) ⟨?_, ⟨rfl, rfl, rfl, rfl, rfl, congrArg (Blk.arr 3 1) e2, trivial⟩, rfl⟩
        repeat ((conv => whnf); first | refine ⟨rfl, e, ?_⟩ | refine ⟨rfl, e3, ?_⟩ | refine ⟨rfl, rfl, ?_⟩)
        trivial
      · have e2 := yes hqk
        ((repeat ((conv => whnf); first | refine brT ?_ | refine brF ?_)); conv => whnf)
        refine ⟨rfl, rfl, ?_, ?_, ?_⟩
        · rw [e2]; unfold Go.maxLen; omega
        · rw [e2]; show (rowW Q (k + 1)).length * 8 ≤ _; omega
        rw [e2]
        ((repeat ((conv => whnf); first | refine brT ?_ | refine brF ?_)); conv => whnf)
        subst hK
        refine round_endR [.old 0, .old 1, .old 4] (k + 1) hlt (by omega) ⟨?_, ⟨rfl, rfl, rfl, rfl, rfl, rfl, trivial⟩, rfl⟩
        ((repeat ((conv => whnf); first | refine ⟨rfl, e, ?_⟩ | refine ⟨rfl, rfl, ?_⟩)); trivial)
    · have c1 : eqI x.sex 1 = false := by rw [hs, eqI_f]; omega
      have c2 : eqI x.sex 2 = true := by rw [hs, eqI_refl]
      rw [c2] at hqk
      rw [c1]
      ((repeat ((conv => whnf); first | refine brT ?_ | refine brF ?_)); conv => whnf)
      refine ⟨n, x.lv, rfl, hx, rfl, ?_⟩
      ((repeat ((conv => whnf); first | refine brT ?_ | refine brF ?_)); conv => whnf)
      rw [c2]
      ((repeat ((conv => whnf); first | refine brT ?_ | refine brF ?_)); conv => whnf)
      refine ⟨_, hM2, ?_⟩
      ((repeat ((conv => whnf); first | refine brT ?_ | refine brF ?_)); conv => whnf)
      cases m2
      · have e2 := no hqk
        have e3 : LV.hs 2 (rowW Q k).length = LV.hs 2 (rowW Q (k + 1)).length := by rw [e2]
        ((repeat ((conv => whnf); first | refine brT ?_ | refine brF ?_)); conv => whnf)
        subst hK
        refine round_endR [.old 0, .old 1, .old 2] (k + 1) hlt (by omega) ⟨?_, ⟨rfl, rfl, rfl, rfl, rfl, congrArg (Blk.arr 3 1) e2, trivial⟩, rfl⟩
        repeat ((conv => whnf); first | refine ⟨rfl, e, ?_⟩ | refine ⟨rfl, e3, ?_⟩ | refine ⟨rfl, rfl, ?_⟩)
        trivial
      · have e2 := yes hqk
        ((repeat ((conv => whnf); first | refine brT ?_ | refine brF ?_)); conv => whnf)
        refine ⟨rfl, rfl, ?_, ?_, ?_⟩
        · rw [e2]; unfold Go.maxLen; omega
        · rw [e2]; show (rowW Q (k + 1)).length * 8 ≤ _; omega
        rw [e2]
        ((repeat ((conv => whnf); first | refine brT ?_ | refine brF ?_)); conv => whnf)
        subst hK
        refine round_endR [.old 0, .old 1, .old 4] (k + 1) hlt (by omega) ⟨?_, ⟨rfl, rfl, rfl, rfl, rfl, rfl, trivial⟩, rfl⟩
        ((repeat ((conv => whnf); first | refine ⟨rfl, e, ?_⟩ | refine ⟨rfl, rfl, ?_⟩)); trivial)
  · have h4 : k = ps.length := by rw [ltI_f] at g1; omega
    subst h4
    subst hK
    subst hq
    ((repeat ((conv => whnf); first | refine brT ?_ | refine brF ?_)); conv => whnf)
    exact ⟨[.hs 0 _], rfl, rfl, .inr ⟨[.old 2], ⟨rfl, rfl, trivial⟩, ⟨rfl, rfl, trivial⟩, rfl⟩⟩
end Go.Proofs.YtgkjafmmekjjlaaGreat


namespace Go.Proofs.YtgkjafmmekjjlaaGreat
open Go.Lg Go.Pm
set_option maxHeartbeats 3200000
set_option maxRecDepth 10000
set_option linter.unusedVariables false
set_option linter.unusedSimpArgs false

theorem law_partnersAllowed (ps : List Per) (us : List Uni) (l : Lw) (p y : Int) (hf : FamOK ps us) : FSpec env.P 5 [famLV ps us, l.lv, .int .i64 p, .int .i64 y] (.bool true) := by
  have hI := ints_h (pa_impl l ps us p y)
  have hS := ints_f (ints_h (pa_spec l ps us p y))
  have hF := ints_f hI
  have hl : (castL (paL l ps us p y)).length ≤ 40 := by rw [castL_len]; exact paL_len l ps us p y
  have hT := toLaw_spec l
  generalize castL (paL l ps us p y) = R at hI hS hF hl
  obtain ⟨ld, lc, la, lg, lw, lh, lp, lm⟩ := l
  refine FSpec_of_code (E := env.x [11, 22, 16, 17] 0) env_ok.x (fn := Tryz.f5) Tryz.func5 rfl Tryz.call5 _ _ ?_
  ((repeat ((conv => whnf); first | refine brT ?_ | refine brF ?_)); conv => whnf)
  refine ⟨_, szFamily_spec ps us _, ?_⟩
  ((repeat ((conv => whnf); first | refine brT ?_ | refine brF ?_)); conv => whnf)
  (refine ⟨fun h => ?_, fun h => ?_⟩ <;> rw [h])
  · ((repeat ((conv => whnf); first | refine brT ?_ | refine brF ?_)); conv => whnf); exact fin rfl
  rw [ltI_f] at h
  obtain ⟨p1, u1, s1⟩ := szFam_ok (by omega) (by omega) hf h
  ((repeat ((conv => whnf); first | refine brT ?_ | refine brF ?_)); conv => whnf)
  refine ⟨true, by kernel_rfl, ?_⟩
  ((repeat ((conv => whnf); first | refine brT ?_ | refine brF ?_)); conv => whnf)
  refine ⟨_, toFamily_spec ps us p1 u1, ?_⟩
  ((repeat ((conv => whnf); first | refine brT ?_ | refine brF ?_)); conv => whnf)
  refine ⟨_, hT, ?_⟩
  ((repeat ((conv => whnf); first | refine brT ?_ | refine brF ?_)); conv => whnf)
  refine ⟨_, hS, ?_⟩
  rw [show flatT (rowOw R) = true from flat_ints R]
  ((repeat ((conv => whnf); first | refine brT ?_ | refine brF ?_)); conv => whnf)
  refine ⟨[], _, _, _, _, toFamily_hm ps us p1 u1, rfl, rfl, rfl, trivial, ?_⟩
  ((repeat ((conv => whnf); first | refine brT ?_ | refine brF ?_)); conv => whnf)
  refine ⟨false, 0, 0, 0, [0, 1, 3, 4], (.one 2 (.one 5 (.one 6 .done))), by kernel_rfl, ?_⟩
  ((repeat ((conv => whnf); first | refine brT ?_ | refine brF ?_)); conv => whnf)
  apply Exists.intro; apply Exists.intro
  refine And.intro ?_ ?_
  · ((repeat ((conv => whnf); first | refine brT ?_ | refine brF ?_)); conv => whnf)
    refine ⟨_, hT, ?_⟩
    ((repeat ((conv => whnf); first | refine brT ?_ | refine brF ?_)); conv => whnf)
    refine ⟨_, _, _, _, hI, rfl, rfl, rfl, rfl, rfl, ⟨rfl, flats_ints _, trivial⟩, ?_⟩
    ((repeat ((conv => whnf); first | refine brT ?_ | refine brF ?_)); conv => whnf)
    refine Weak.idn ?_ ?_ rfl
    · ((repeat ((conv => whnf); refine ⟨rfl, ?_⟩)); trivial)
    · exact ⟨rfl, rfl, rfl, rfl, rfl, rfl, trivial⟩
  ((repeat ((conv => whnf); first | refine brT ?_ | refine brF ?_)); conv => whnf)
  refine ⟨rfl, ?_⟩
  ((repeat ((conv => whnf); first | refine brT ?_ | refine brF ?_)); conv => whnf)
  refine ⟨_, eqIntS_spec R R, ?_⟩
  rw [eqIntS_refl]
  ((repeat ((conv => whnf); first | refine brT ?_ | refine brF ?_)); conv => whnf)
  rw [show notB true = false by simp [notB]]
  ((repeat ((conv => whnf); first | refine brT ?_ | refine brF ?_)); conv => whnf)
  refine ⟨true, by kernel_rfl, ?_⟩
  ((repeat ((conv => whnf); first | refine brT ?_ | refine brF ?_)); conv => whnf)
  refine ⟨_, toFamily_spec ps us p1 u1, ?_⟩
  ((repeat ((conv => whnf); first | refine brT ?_ | refine brF ?_)); conv => whnf)
  refine ⟨rfl, ?_⟩
  ((repeat ((conv => whnf); first | refine brT ?_ | refine brF ?_)); conv => whnf)
  refine ⟨rfl, ?_⟩
  ((repeat ((conv => whnf); first | refine brT ?_ | refine brF ?_)); conv => whnf)
  refine ⟨_, eqFamily_spec ps ps us us, ?_⟩
  rw [eqFam_refl]
  ((repeat ((conv => whnf); first | refine brT ?_ | refine brF ?_)); conv => whnf)
  rw [show notB true = false by simp [notB]]
  ((repeat ((conv => whnf); first | refine brT ?_ | refine brF ?_)); conv => whnf)
  refine ⟨[2, 3], _, _, _, _, markFamily_hm ps us 1 (by omega), rfl, rfl, rfl, trivial, ?_⟩
  ((repeat ((conv => whnf); first | refine brT ?_ | refine brF ?_)); conv => whnf)
  rw [show ltI ((1 + 6 * ps.length + 4 * us.length : Nat) : Int) 0 = false by rw [ltI_f]; omega]
  ((repeat ((conv => whnf); first | refine brT ?_ | refine brF ?_)); conv => whnf)
  refine ⟨rfl, ?_⟩
  ((repeat ((conv => whnf); first | refine brT ?_ | refine brF ?_)); conv => whnf)
  refine ⟨_, eqIntS_spec R R, ?_⟩
  rw [eqIntS_refl]
  ((repeat ((conv => whnf); first | refine brT ?_ | refine brF ?_)); conv => whnf)
  rw [show notB true = false by simp [notB]]
  ((repeat ((conv => whnf); first | refine brT ?_ | refine brF ?_)); conv => whnf)
  refine ⟨[5], _, _, _, _, markIntS_spec R _ rfl 1 (by omega) (by omega), rfl, rfl, rfl, trivial, ?_⟩
  ((repeat ((conv => whnf); first | refine brT ?_ | refine brF ?_)); conv => whnf)
  refine ⟨by simp [marks_len], ?_⟩
  ((repeat ((conv => whnf); first | refine brT ?_ | refine brF ?_)); conv => whnf)
  refine ⟨_, heldIntS_spec 1 R.length (by omega) (by omega), ?_⟩
  ((repeat ((conv => whnf); first | refine brT ?_ | refine brF ?_)); conv => whnf)
  rw [show ltI (1 + (R.length : Int)) 0 = false by rw [ltI_f]; omega]
  ((repeat ((conv => whnf); first | refine brT ?_ | refine brF ?_)); conv => whnf)
  rw [show notB (eqI (1 + (R.length : Int)) (1 + (R.length : Int))) = false by simp [notB, eqI_refl]]
  ((repeat ((conv => whnf); first | refine brT ?_ | refine brF ?_)); conv => whnf)
  refine ⟨true, by kernel_rfl, ?_⟩
  ((repeat ((conv => whnf); first | refine brT ?_ | refine brF ?_)); conv => whnf)
  refine ⟨_, toFamily_spec ps us p1 u1, ?_⟩
  ((repeat ((conv => whnf); first | refine brT ?_ | refine brF ?_)); conv => whnf)
  refine ⟨_, hT, ?_⟩
  ((repeat ((conv => whnf); first | refine brT ?_ | refine brF ?_)); conv => whnf)
  refine ⟨_, hF, ?_⟩
  rw [show flatT (rowOw R) = true from flat_ints R]
  ((repeat ((conv => whnf); first | refine brT ?_ | refine brF ?_)); conv => whnf)
  refine ⟨_, eqIntS_spec R R, ?_⟩
  rw [eqIntS_refl]
  ((repeat ((conv => whnf); first | refine brT ?_ | refine brF ?_)); conv => whnf)
  rw [show notB true = false by simp [notB]]
  ((repeat ((conv => whnf); first | refine brT ?_ | refine brF ?_)); conv => whnf)
  refine ⟨by simp [marks_len], ?_⟩
  ((repeat ((conv => whnf); first | refine brT ?_ | refine brF ?_)); conv => whnf)
  refine ⟨_, heldIntS_spec 1 R.length (by omega) (by omega), ?_⟩
  ((repeat ((conv => whnf); first | refine brT ?_ | refine brF ?_)); conv => whnf)
  rw [show ltI (1 + (R.length : Int)) 0 = false by rw [ltI_f]; omega]
  ((repeat ((conv => whnf); first | refine brT ?_ | refine brF ?_)); conv => whnf)
  rw [show notB (eqI (1 + (R.length : Int)) (1 + (R.length : Int))) = false by simp [notB, eqI_refl]]
  ((repeat ((conv => whnf); first | refine brT ?_ | refine brF ?_)); conv => whnf)
  exact fin rfl
end Go.Proofs.YtgkjafmmekjjlaaGreat


namespace Go.Proofs.YtgkjafmmekjjlaaGreat
open Go.Lg Go.RowKit Go.ChangeShapes Go.WideShapes Go.Deep Go.Joins
set_option linter.unusedVariables false
set_option linter.unusedSimpArgs false
set_option maxRecDepth 100000

theorem list_of {α : Type} {lv : α → LV} {Q : α → Prop} : ∀ (xs : List LV), (∀ x ∈ xs, ∃ p, x = lv p ∧ Q p) → ∃ ps : List α, xs = ps.map lv ∧ ∀ p ∈ ps, Q p
  | [], _ => ⟨[], rfl, by simp⟩
  | x :: xs, h => by
    obtain ⟨p, rfl, hp⟩ := h x (by simp)
    obtain ⟨ps, rfl, hps⟩ := list_of xs fun y hy => h y (by simp [hy])
    exact ⟨p :: ps, rfl, List.forall_mem_cons.2 ⟨hp, hps⟩⟩

section
variable {H : Type} {enc : TypeId × Value → H} {w : World}
end
end Go.Proofs.YtgkjafmmekjjlaaGreat


namespace Go.Proofs.YtgkjafmmekjjlaaGreat
open Go.Lg
set_option maxRecDepth 10000
set_option linter.unusedVariables false
set_option linter.unusedSimpArgs false

/-! ### A family, out of an argument's shape -/
abbrev shPer : Sh := .st [.str, .int .i64, .int .i64, .int .i64, .int .i64, .int .i64]
abbrev shUni : Sh := .st [.int .i64, .int .i64, .int .i64, .int .i64]
abbrev shFam : Sh := .st [.sl (.st [.str, .int .i64, .int .i64, .int .i64, .int .i64, .int .i64]), .sl (.st [.int .i64, .int .i64, .int .i64, .int .i64])]
theorem per_of_sh {x : LV} (h : hasSh shPer x) : ∃ p : Per, x = p.lv ∧ p.name.size ≤ maxLen := by
  simp only [hasSh] at h
  obtain ⟨xs, rfl, h⟩ := h
  match xs, h with
  | [a, b, c, d, e, f], h =>
    simp only [hasShs, hasSh] at h
    obtain ⟨⟨s, rfl, hs⟩, ⟨n1, rfl⟩, ⟨n2, rfl⟩, ⟨n3, rfl⟩, ⟨n4, rfl⟩, ⟨n5, rfl⟩, _⟩ := h
    exact ⟨⟨s, n1, n2, n3, n4, n5⟩, rfl, hs⟩
  | [], h => simp [hasShs] at h
  | [_], h => simp [hasShs] at h
  | [_, _], h => simp [hasShs] at h
  | [_, _, _], h => simp [hasShs] at h
  | [_, _, _, _], h => simp [hasShs] at h
  | [_, _, _, _, _], h => simp [hasShs] at h
  | _ :: _ :: _ :: _ :: _ :: _ :: _ :: _, h => simp [hasShs] at h
theorem uni_of_sh {x : LV} (h : hasSh shUni x) : ∃ u : Uni, x = u.lv ∧ True := by
  simp only [hasSh] at h
  obtain ⟨xs, rfl, h⟩ := h
  match xs, h with
  | [a, b, c, d], h =>
    simp only [hasShs, hasSh] at h
    obtain ⟨⟨n1, rfl⟩, ⟨n2, rfl⟩, ⟨n3, rfl⟩, ⟨n4, rfl⟩, _⟩ := h
    exact ⟨⟨n1, n2, n3, n4⟩, rfl, trivial⟩
  | [], h => simp [hasShs] at h
  | [_], h => simp [hasShs] at h
  | [_, _], h => simp [hasShs] at h
  | [_, _, _], h => simp [hasShs] at h
  | _ :: _ :: _ :: _ :: _ :: _, h => simp [hasShs] at h
theorem fam_of_sh {x : LV} (h : hasSh shFam x) : ∃ (ps : List Per) (us : List Uni), x = famLV ps us ∧ FamOK ps us := by
  simp only [hasSh] at h
  obtain ⟨xs, rfl, h⟩ := h
  match xs, h with
  | [a, b], h =>
    simp only [hasShs, hasSh] at h
    obtain ⟨⟨ys, rfl, hl, hy⟩, ⟨zs, rfl, hm, hz⟩, _⟩ := h
    obtain ⟨ps, rfl, hps⟩ := list_of (lv := Per.lv) (Q := fun p => p.name.size ≤ maxLen) ys fun y hy' => per_of_sh (by simp only [hasSh]; exact hy y hy')
    obtain ⟨us, rfl, _⟩ := list_of (lv := Uni.lv) (Q := fun _ => True) zs fun y hy' => uni_of_sh (by simp only [hasSh]; exact hz y hy')
    exact ⟨ps, us, rfl, ⟨by simpa using hl, by simpa using hm, hps⟩⟩
  | [], h => simp [hasShs] at h
  | [_], h => simp [hasShs] at h
  | _ :: _ :: _ :: _, h => simp [hasShs] at h
end Go.Proofs.YtgkjafmmekjjlaaGreat

