/- Contracts of functions of the program and of its model, told over readings. -/
import Derived.Test.YtgkjafmmekjjlaaGreatCWGG
import Derived.Test.YtgkjafmmekjjlaaGreatCWGD
import Derived.Test.YtgkjafmmekjjlaaGreatCLgRN
import Derived.Test.YtgkjafmmekjjlaaGreatCLgRM
import Derived.Test.YtgkjafmmekjjlaaGreatCWGC
import Derived.Test.YtgkjafmmekjjlaaGreatCWGA
import Derived.Test.YtgkjafmmekjjlaaGreatCLgW
set_option maxHeartbeats 6400000
set_option maxRecDepth 10000
set_option linter.unusedVariables false
set_option linter.unusedSimpArgs false
set_option linter.unusedSectionVars false
namespace Go.Proofs.YtgkjafmmekjjlaaGreat
open Go.Lg Go.Pm
theorem married_eq {ps : List Per} {us : List Uni} {p : Int} (h : hasP ps us p = true) (y : Int) : marriedL ps us p y = othersTo (keepAt ps y) p us us.length := by
  unfold marriedL; rw [h]
theorem bars_of (l : Lw) (ps : List Per) (us : List Uni) (n m : Nat) (y : Int) (pa : hasP ps us n = true) (pb : hasP ps us m = true) : ∃ x z, ps[n]? = some x ∧ ps[m]? = some z ∧
    FSpec env.P 45 [famLV ps us, l.lv, .int .i64 (n : Int), .int .i64 (m : Int), .int .i64 y] (.own 4 1 ((false :: barV l ps us n m y x z).map bLV)) := by
  obtain ⟨a0, al, hl, hpi⟩ := hasP_in pa
  obtain ⟨b0, bl, _, _⟩ := hasP_in pb
  have hf := (hasP_lt pa).2.2
  have hsh := fam_sh hf
  simp only [Int.toNat_natCast] at al bl
  refine ⟨ps[n], ps[m], List.getElem?_eq_getElem al, List.getElem?_eq_getElem bl, ?_⟩
  have hm1 := marriedAt_spec ps us n y
  have hm2 := marriedAt_spec ps us m y
  rw [married_eq pa] at hm1
  rw [married_eq pb] at hm2
  obtain ⟨ld, lc, la, lg, lw, lh, lp, lm⟩ := l
  exact bars9_spec ps us ld lc la lg lw lh lp lm n m y ps[n] ps[m] 0 0 (upd ps n m) (upd ps m n) (foAt ps 1 n) (foAt ps 1 m) (foAt ps 2 n) (foAt ps 2 m) (cnR (linksL ps us n m)) (lkB (linksL ps us n m)) (closeB ld (linksL ps us n m)) _
    (us.any (afP ps us n m y la)) (us.any (afP ps us m n y la)) (per_get al) (per_get bl) _ _ _ _ hm1 hm2 (up_f ps us hl hpi hsh n al) (up_f ps us hl hpi hsh m bl) (upRow_get bl) (upRow_get al)
    (close_spec ps us n m ld) (canon_spec ps us n m) (l7Founder_spec ps us n 1 (.inl rfl) hpi al) (l7Founder_spec ps us m 1 (.inl rfl) hpi bl) (l7Founder_spec ps us n 2 (.inr rfl) hpi al) (l7Founder_spec ps us m 2 (.inr rfl) hpi bl)
    (affine9_spec ps us n m y la (famOk_parts hf).2.1) (affine9_spec ps us m n y la (famOk_parts hf).2.1) (famOk_parts hf).2.1 (union_eq n m us)
    rfl rfl rfl rfl rfl rfl (within_eq ld _) (canon_eq lc _) rfl rfl (by rw [aff_eq, aff_eq]; cases notB (eqI la 0) <;> simp)
theorem imped_spec (l : Lw) (ps : List Per) (us : List Uni) (a b y : Int) :
    HSpec env.P 10 [famLV ps us, l.lv, .int .i64 a, .int .i64 b, .int .i64 y] [] (.hs 0 ((impedL l ps us a b y).map intLV).length) [.arr 3 1 ((impedL l ps us a b y).map intLV)] := by
  have h1 := isLaw_spec l
  have hB := fun n m pa pb => bars_of l ps us n m y pa pb
  unfold impedL
  refine HSpec_of_code (E := env.x [44] 0) env_ok.x (fn := Tryz.f10) Tryz.func10 rfl Tryz.call10 _ _ _ _ ?_
  have fin0 : ∀ (LL : LV), True := fun _ => trivial
  obtain ⟨ld, lc, la, lg, lw, lh, lp, lm⟩ := l
  ((repeat ((conv => whnf); first | refine brT ?_ | refine brF ?_)); conv => whnf)
  refine ⟨_, h1, ?_⟩
  ((repeat ((conv => whnf); first | refine brT ?_ | refine brF ?_)); conv => whnf)
  cases hL : lawOk _
  · rw [show notB false = true by simp [notB]]
    ((repeat ((conv => whnf); first | refine brT ?_ | refine brF ?_)); conv => whnf)
    exact ⟨[.hs 0 0], rfl, rfl, .nl [.tmp 0 [] false 3 1] [.old 2] ⟨⟨rfl, rfl, trivial⟩, ⟨rfl, rfl, trivial⟩, rfl⟩⟩
  rw [show notB true = false by simp [notB]]
  ((repeat ((conv => whnf); first | refine brT ?_ | refine brF ?_)); conv => whnf)
  refine ⟨_, l1Has_spec ps us a, ?_⟩
  ((repeat ((conv => whnf); first | refine brT ?_ | refine brF ?_)); conv => whnf)
  cases pa : hasP ps us a
  · rw [show notB false = true by simp [notB]]
    ((repeat ((conv => whnf); first | refine brT ?_ | refine brF ?_)); conv => whnf)
    exact ⟨[.hs 0 0], rfl, rfl, .nl [.tmp 0 [] false 3 1] [.old 2] ⟨⟨rfl, rfl, trivial⟩, ⟨rfl, rfl, trivial⟩, rfl⟩⟩
  rw [show notB true = false by simp [notB]]
  ((repeat ((conv => whnf); first | refine brT ?_ | refine brF ?_)); conv => whnf)
  refine ⟨_, l1Has_spec ps us b, ?_⟩
  ((repeat ((conv => whnf); first | refine brT ?_ | refine brF ?_)); conv => whnf)
  cases pb : hasP ps us b
  · rw [show notB false = true by simp [notB]]
    ((repeat ((conv => whnf); first | refine brT ?_ | refine brF ?_)); conv => whnf)
    exact ⟨[.hs 0 0], rfl, rfl, .nl [.tmp 0 [] false 3 1] [.old 2] ⟨⟨rfl, rfl, trivial⟩, ⟨rfl, rfl, trivial⟩, rfl⟩⟩
  rw [show notB true = false by simp [notB]]
  have a0 := (hasP_lt pa).1
  have b0 := (hasP_lt pb).1
  obtain ⟨n, rfl⟩ : ∃ n : Nat, a = (n : Int) := ⟨a.toNat, by omega⟩
  obtain ⟨m, rfl⟩ : ∃ m : Nat, b = (m : Int) := ⟨b.toNat, by omega⟩
  obtain ⟨x, z, hx, hz, hb⟩ := hB n m pa pb
  rw [Int.toNat_natCast, Int.toNat_natCast, hx, hz]
  have hli := l3Listed_h (false :: barV ⟨ld, lc, la, lg, lw, lh, lp, lm⟩ ps us n m y x z) (by simp [barV])
  have hlist : listedTo (false :: barV ⟨ld, lc, la, lg, lw, lh, lp, lm⟩ ps us n m y x z) (false :: barV ⟨ld, lc, la, lg, lw, lh, lp, lm⟩ ps us n m y x z).length = impTo (ixQ (barV ⟨ld, lc, la, lg, lw, lh, lp, lm⟩ ps us n m y x z)) barsL 12 := imp_list _ _ _ _ _ _ _ _ _ _ _ _
  rw [hlist] at hli
  generalize hR : impTo _ barsL 12 = R at hli
  generalize (false :: barV _ ps us n m y x z) = V at hb hli
  unfold boolsLV at hli
  ((repeat ((conv => whnf); first | refine brT ?_ | refine brF ?_)); conv => whnf)
  refine ⟨_, hb, ?_⟩
  ((repeat ((conv => whnf); first | refine brT ?_ | refine brF ?_)); conv => whnf)
  refine ⟨[], _, _, _, _, hli, rfl, rfl, rfl, trivial, ?_⟩
  ((repeat ((conv => whnf); first | refine brT ?_ | refine brF ?_)); conv => whnf)
  subst hR
  exact ⟨[.hs 0 _], rfl, rfl, .inr ⟨[.old 2], ⟨rfl, rfl, trivial⟩, ⟨rfl, rfl, trivial⟩, rfl⟩⟩
end Go.Proofs.YtgkjafmmekjjlaaGreat
namespace Go.Proofs.YtgkjafmmekjjlaaGreat
open Go.Lg Go.Pm
def mayB (l : Lw) (ps : List Per) (us : List Uni) (a b y : Int) : Bool := lawOk l && ((hasP ps us a && hasP ps us b) && eqI ((impedL l ps us a b y).length : Int) 0)
theorem may_spec (l : Lw) (ps : List Per) (us : List Uni) (a b y : Int) : FSpec env.P 19 [famLV ps us, l.lv, .int .i64 a, .int .i64 b, .int .i64 y] (.bool (mayB l ps us a b y)) := by
  have h1 := isLaw_spec l
  have h2 := ints_f (imped_spec l ps us a b y)
  unfold mayB
  generalize impedL l ps us a b y = R at h2 ⊢
  have hR : ((R.map intLV).length : Int) = (R.length : Int) := by simp
  generalize lawOk l = L at h1 ⊢
  obtain ⟨ld, lc, la, lg, lw, lh, lp, lm⟩ := l
  refine FSpec_of_code env_ok (fn := Tryz.f19) Tryz.func19 rfl Tryz.call19 _ _ ?_
  ((repeat ((conv => whnf); first | refine brT ?_ | refine brF ?_)); conv => whnf)
  refine ⟨_, h1, ?_⟩
  ((repeat ((conv => whnf); first | refine brT ?_ | refine brF ?_)); conv => whnf)
  cases L
  · ((repeat ((conv => whnf); first | refine brT ?_ | refine brF ?_)); conv => whnf)
    exact fin rfl
  ((repeat ((conv => whnf); first | refine brT ?_ | refine brF ?_)); conv => whnf)
  refine ⟨_, l1Has_spec ps us a, ?_⟩
  ((repeat ((conv => whnf); first | refine brT ?_ | refine brF ?_)); conv => whnf)
  cases pa : hasP ps us a
  · ((repeat ((conv => whnf); first | refine brT ?_ | refine brF ?_)); conv => whnf)
    exact fin rfl
  ((repeat ((conv => whnf); first | refine brT ?_ | refine brF ?_)); conv => whnf)
  refine ⟨_, l1Has_spec ps us b, ?_⟩
  ((repeat ((conv => whnf); first | refine brT ?_ | refine brF ?_)); conv => whnf)
  cases pb : hasP ps us b
  · ((repeat ((conv => whnf); first | refine brT ?_ | refine brF ?_)); conv => whnf)
    exact fin rfl
  ((repeat ((conv => whnf); first | refine brT ?_ | refine brF ?_)); conv => whnf)
  refine ⟨_, h2, ?_⟩
  rw [show flatT (rowOw R) = true from flat_ints R]
  ((repeat ((conv => whnf); first | refine brT ?_ | refine brF ?_)); conv => whnf)
  intro _
  ((repeat ((conv => whnf); first | refine brT ?_ | refine brF ?_)); conv => whnf)
  rw [hR]
  exact fin rfl
theorem may_impl (l : Lw) (ps : List Per) (us : List Uni) (a b y : Int) : FSpec env.P 20 [famLV ps us, l.lv, .int .i64 a, .int .i64 b, .int .i64 y] (.bool (mayB l ps us a b y)) := by
  have h1 := isLaw_impl l
  have hI : ∀ n m : Nat, a = (n : Int) → b = (m : Int) → hasP ps us a = true → hasP ps us b = true → FSpec env.P 50 [famLV ps us, l.lv] (cLV l ps us (fos ps 1) (fos ps 2)) ∧
      (lawOk l = true → FSpec env.P 56 [cLV l ps us (fos ps 1) (fos ps 2), mLV n m y] (.bool (eqI ((impedL l ps us a b y).length : Int) 0))) := by
    intro n m e1 e2 pa pb
    subst e1 e2
    obtain ⟨a0, al, hl, hpi⟩ := hasP_in pa
    obtain ⟨b0, bl, _, _⟩ := hasP_in pb
    have hf := (hasP_lt pa).2.2
    simp only [Int.toNat_natCast] at al bl
    refine ⟨courtOf_spec l ps us hf, fun hL => ?_⟩
    have hi := ints_f (imps_h l ps us (fos ps 1) (fos ps 2) n m y _ barsL bars_spec (by decide) (bars_all l ps us n m y hf al bl pa pb))
    have e : impTo (ixQ (barV l ps us n m y ps[n] ps[m])) barsL barsL.length = impedL l ps us n m y := by
      unfold impedL
      rw [hL, pa, pb, Int.toNat_natCast, Int.toNat_natCast, List.getElem?_eq_getElem al, List.getElem?_eq_getElem bl]
      rfl
    rw [e] at hi
    generalize impedL l ps us n m y = R at hi ⊢
    have hR : ((R.map intLV).length : Int) = (R.length : Int) := by simp
    obtain ⟨ld, lc, la, lg, lw, lh, lp, lm⟩ := l
    unfold cLV at hi ⊢
    unfold upL at hi ⊢
    refine FSpec_of_code env_ok (fn := Tryz.f56) Tryz.func56 rfl Tryz.call56 _ _ ?_
    ((repeat ((conv => whnf); first | refine brT ?_ | refine brF ?_)); conv => whnf)
    refine ⟨_, hi, ?_⟩
    rw [show flatT (rowOw R) = true from flat_ints R]
    ((repeat ((conv => whnf); first | refine brT ?_ | refine brF ?_)); conv => whnf)
    intro _
    ((repeat ((conv => whnf); first | refine brT ?_ | refine brF ?_)); conv => whnf)
    rw [hR]
    exact fin rfl
  unfold mayB
  generalize impedL l ps us a b y = R at hI ⊢
  generalize lawOk l = L at h1 hI ⊢
  obtain ⟨ld, lc, la, lg, lw, lh, lp, lm⟩ := l
  refine FSpec_of_code env_ok (fn := Tryz.f20) Tryz.func20 rfl Tryz.call20 _ _ ?_
  ((repeat ((conv => whnf); first | refine brT ?_ | refine brF ?_)); conv => whnf)
  refine ⟨_, h1, ?_⟩
  ((repeat ((conv => whnf); first | refine brT ?_ | refine brF ?_)); conv => whnf)
  cases L
  · ((repeat ((conv => whnf); first | refine brT ?_ | refine brF ?_)); conv => whnf)
    exact fin rfl
  ((repeat ((conv => whnf); first | refine brT ?_ | refine brF ?_)); conv => whnf)
  refine ⟨rfl, ?_⟩
  ((repeat ((conv => whnf); first | refine brT ?_ | refine brF ?_)); conv => whnf)
  refine ⟨_, hasPeople_spec ps us a b, ?_⟩
  ((repeat ((conv => whnf); first | refine brT ?_ | refine brF ?_)); conv => whnf)
  cases h : hasP ps us a && hasP ps us b
  · ((repeat ((conv => whnf); first | refine brT ?_ | refine brF ?_)); conv => whnf)
    exact fin rfl
  obtain ⟨pa, pb⟩ := Bool.and_eq_true_iff.1 h
  have a0 := (hasP_lt pa).1
  have b0 := (hasP_lt pb).1
  obtain ⟨n, rfl⟩ : ∃ n : Nat, a = (n : Int) := ⟨a.toNat, by omega⟩
  obtain ⟨m, rfl⟩ : ∃ m : Nat, b = (m : Int) := ⟨b.toNat, by omega⟩
  obtain ⟨hc, ha⟩ := hI n m rfl rfl pa pb
  have ha := ha rfl
  unfold cLV upL at hc ha
  ((repeat ((conv => whnf); first | refine brT ?_ | refine brF ?_)); conv => whnf)
  refine ⟨_, hc, ?_⟩
  ((repeat ((conv => whnf); first | refine brT ?_ | refine brF ?_)); conv => whnf)
  refine ⟨_, ha, ?_⟩
  ((repeat ((conv => whnf); first | refine brT ?_ | refine brF ?_)); conv => whnf)
  exact fin rfl
end Go.Proofs.YtgkjafmmekjjlaaGreat
namespace Go.Proofs.YtgkjafmmekjjlaaGreat
open Go.Lg Go.Pm
def newU (a b y : Int) : Uni := ⟨a, b, y, -1⟩
def okJ (l : Lw) (ps : List Per) (us : List Uni) (a b y : Int) : Bool := mayB l ps us a b y && famOk ps (us ++ [newU a b y])
def juP (l : Lw) (ps : List Per) (us : List Uni) (a b y : Int) : List Per := match okJ l ps us a b y with | true => ps | false => []
def juU (l : Lw) (ps : List Per) (us : List Uni) (a b y : Int) : List Uni := match okJ l ps us a b y with | true => us ++ [newU a b y] | false => []
theorem ju_no {l : Lw} {ps : List Per} {us : List Uni} {a b y : Int} (h : okJ l ps us a b y = false) : juP l ps us a b y = [] ∧ juU l ps us a b y = [] := by
  unfold juP juU; rw [h]; exact ⟨rfl, rfl⟩
theorem ju_yes {l : Lw} {ps : List Per} {us : List Uni} {a b y : Int} (h : okJ l ps us a b y = true) : juP l ps us a b y = ps ∧ juU l ps us a b y = us ++ [newU a b y] := by
  unfold juP juU; rw [h]; exact ⟨rfl, rfl⟩
theorem may_fam {l : Lw} {ps : List Per} {us : List Uni} {a b y : Int} (h : mayB l ps us a b y = true) : famOk ps us = true := by
  unfold mayB at h
  simp only [Bool.and_eq_true] at h
  exact (hasP_lt h.2.1.1).2.2
theorem join_impl (l : Lw) (ps : List Per) (us : List Uni) (a b y : Int) : HSpec env.P 24 [famLV ps us, l.lv, .int .i64 a, .int .i64 b, .int .i64 y] []
    (.tup [famHS ((juP l ps us a b y).map Per.lv).length ((juU l ps us a b y).map Uni.lv).length, .bool (okJ l ps us a b y)]) [.arr 85 6 ((juP l ps us a b y).map Per.lv), .arr 89 4 ((juU l ps us a b y).map Uni.lv)] := by
  have h1 := may_impl l ps us a b y
  have hok : okJ l ps us a b y = (mayB l ps us a b y && famOk ps (us ++ [newU a b y])) := rfl
  have hno := ju_no (l := l) (ps := ps) (us := us) (a := a) (b := b) (y := y)
  have hyes := ju_yes (l := l) (ps := ps) (us := us) (a := a) (b := b) (y := y)
  have hf := may_fam (l := l) (ps := ps) (us := us) (a := a) (b := b) (y := y)
  generalize okJ l ps us a b y = B at hok hno hyes ⊢
  generalize juP l ps us a b y = P' at hno hyes ⊢
  generalize juU l ps us a b y = U' at hno hyes ⊢
  generalize mayB l ps us a b y = m at h1 hok hf
  obtain ⟨ld, lc, la, lg, lw, lh, lp, lm⟩ := l
  refine HSpec_of_code (E := env.x [63, 61, 62] 0) env_ok.x (fn := Tryz.f24) Tryz.func24 rfl Tryz.call24 _ _ _ _ ?_
  ((repeat ((conv => whnf); first | refine brT ?_ | refine brF ?_)); conv => whnf)
  refine ⟨_, h1, ?_⟩
  ((repeat ((conv => whnf); first | refine brT ?_ | refine brF ?_)); conv => whnf)
  cases m
  · rw [Bool.false_and] at hok
    subst hok
    obtain ⟨rfl, rfl⟩ := hno rfl
    rw [show notB false = true by simp [notB]]
    ((repeat ((conv => whnf); first | refine brT ?_ | refine brF ?_)); conv => whnf)
    exact ⟨[famHS 0 0, .bool false], rfl, rfl, .nl [.tmp 0 [0] false 85 6, .tmp 0 [1] false 89 4] [.old 3, .old 4] ⟨⟨rfl, rfl, rfl, rfl, trivial⟩, ⟨rfl, rfl, rfl, rfl, trivial⟩, rfl⟩⟩
  rw [show notB true = false by simp [notB]]
  rw [Bool.true_and] at hok
  have hf := hf rfl
  have hl := fam_40 hf
  have hu := (famOk_parts hf).2.1
  have hU : us.map Uni.lv ++ [(newU a b y).lv] = (us ++ [newU a b y]).map Uni.lv := by rw [List.map_append]; rfl
  have hUl : ((us ++ [newU a b y]).map Uni.lv).length ≤ 61 := by simp; omega
  ((repeat ((conv => whnf); first | refine brT ?_ | refine brF ?_)); conv => whnf)
  refine ⟨[], _, _, _, _, cloneUni_h us (by omega), rfl, rfl, rfl, trivial, ?_⟩
  ((repeat ((conv => whnf); first | refine brT ?_ | refine brF ?_)); conv => whnf)
  refine ⟨rfl, rfl, ?_, ?_, ?_⟩
  · show (us.map Uni.lv ++ [(newU a b y).lv]).length ≤ _
    rw [hU]; unfold Go.maxLen; omega
  · show (us.map Uni.lv ++ [(newU a b y).lv]).length * 32 ≤ _
    rw [hU]; omega
  ((repeat ((conv => whnf); first | refine brT ?_ | refine brF ?_)); conv => whnf)
  refine ⟨[], _, _, _, _, clonePer_h ps (by omega), rfl, rfl, rfl, trivial, ?_⟩
  ((repeat ((conv => whnf); first | refine brT ?_ | refine brF ?_)); conv => whnf)
  cases g3 : famOk ps (us ++ [newU a b y])
  · rw [g3] at hok
    subst hok
    obtain ⟨rfl, rfl⟩ := hno rfl
    have hv := validFamily_no ps (us ++ [newU a b y]) g3
    rw [← hU] at hv
    refine ⟨[6, 5], _, _, _, _, hv, rfl, rfl, rfl, trivial, ?_⟩
    ((repeat ((conv => whnf); first | refine brT ?_ | refine brF ?_)); conv => whnf)
    exact ⟨[famHS 0 0, .bool false], rfl, rfl, .nl [.tmp 0 [0] false 85 6, .tmp 0 [1] false 89 4] [.old 7, .old 8] ⟨⟨rfl, rfl, rfl, rfl, trivial⟩, ⟨rfl, rfl, rfl, rfl, trivial⟩, rfl⟩⟩
  · rw [g3] at hok
    subst hok
    obtain ⟨rfl, rfl⟩ := hyes rfl
    have hv := validFamily_yes P' (us ++ [newU a b y]) g3
    rw [← hU] at hv ⊢
    refine ⟨[6, 5], _, _, _, _, hv, rfl, rfl, rfl, trivial, ?_⟩
    ((repeat ((conv => whnf); first | refine brT ?_ | refine brF ?_)); conv => whnf)
    exact ⟨[famHS _ _, .bool true], rfl, rfl, .inr ⟨[.old 6, .old 5], ⟨rfl, rfl, rfl, rfl, trivial⟩, ⟨rfl, rfl, rfl, rfl, trivial⟩, rfl⟩⟩
theorem join_spec (l : Lw) (ps : List Per) (us : List Uni) (a b y : Int) : HSpec env.P 23 [famLV ps us, l.lv, .int .i64 a, .int .i64 b, .int .i64 y] []
    (.tup [famHS ((juP l ps us a b y).map Per.lv).length ((juU l ps us a b y).map Uni.lv).length, .bool (okJ l ps us a b y)]) [.arr 85 6 ((juP l ps us a b y).map Per.lv), .arr 89 4 ((juU l ps us a b y).map Uni.lv)] := by
  have h1 := may_spec l ps us a b y
  have hok : okJ l ps us a b y = (mayB l ps us a b y && famOk ps (us ++ [newU a b y])) := rfl
  have hno := ju_no (l := l) (ps := ps) (us := us) (a := a) (b := b) (y := y)
  have hyes := ju_yes (l := l) (ps := ps) (us := us) (a := a) (b := b) (y := y)
  have hf := may_fam (l := l) (ps := ps) (us := us) (a := a) (b := b) (y := y)
  generalize okJ l ps us a b y = B at hok hno hyes ⊢
  generalize juP l ps us a b y = P' at hno hyes ⊢
  generalize juU l ps us a b y = U' at hno hyes ⊢
  generalize mayB l ps us a b y = m at h1 hok hf
  obtain ⟨ld, lc, la, lg, lw, lh, lp, lm⟩ := l
  refine HSpec_of_code (E := env.x [59] 0) env_ok.x (fn := Tryz.f23) Tryz.func23 rfl Tryz.call23 _ _ _ _ ?_
  ((repeat ((conv => whnf); first | refine brT ?_ | refine brF ?_)); conv => whnf)
  refine ⟨_, h1, ?_⟩
  ((repeat ((conv => whnf); first | refine brT ?_ | refine brF ?_)); conv => whnf)
  cases m
  · rw [Bool.false_and] at hok
    subst hok
    obtain ⟨rfl, rfl⟩ := hno rfl
    rw [show notB false = true by simp [notB]]
    ((repeat ((conv => whnf); first | refine brT ?_ | refine brF ?_)); conv => whnf)
    exact ⟨[famHS 0 0, .bool false], rfl, rfl, .nl [.tmp 0 [0] false 85 6, .tmp 0 [1] false 89 4] [.old 3, .old 4] ⟨⟨rfl, rfl, rfl, rfl, trivial⟩, ⟨rfl, rfl, rfl, rfl, trivial⟩, rfl⟩⟩
  rw [show notB true = false by simp [notB]]
  rw [Bool.true_and] at hok
  have hf := hf rfl
  have hl := fam_40 hf
  have hu := (famOk_parts hf).2.1
  have hU : us.map Uni.lv ++ [(newU a b y).lv] = (us ++ [newU a b y]).map Uni.lv := by rw [List.map_append]; rfl
  have hUl : ((us ++ [newU a b y]).map Uni.lv).length ≤ 61 := by simp; omega
  have hI := isFamily_spec ps (us ++ [newU a b y])
  unfold famLV at hI
  rw [← hU] at hI
  ((repeat ((conv => whnf); first | refine brT ?_ | refine brF ?_)); conv => whnf)
  refine ⟨[], _, _, _, _, l1Copy_h ps us (by omega) (by omega), rfl, rfl, rfl, trivial, ?_⟩
  ((repeat ((conv => whnf); first | refine brT ?_ | refine brF ?_)); conv => whnf)
  refine ⟨rfl, rfl, ?_, ?_, ?_⟩
  · show (us.map Uni.lv ++ [(newU a b y).lv]).length ≤ _
    rw [hU]; unfold Go.maxLen; omega
  · show (us.map Uni.lv ++ [(newU a b y).lv]).length * 32 ≤ _
    rw [hU]; omega
  ((repeat ((conv => whnf); first | refine brT ?_ | refine brF ?_)); conv => whnf)
  refine ⟨rfl, ?_⟩
  ((repeat ((conv => whnf); first | refine brT ?_ | refine brF ?_)); conv => whnf)
  refine ⟨rfl, ?_⟩
  ((repeat ((conv => whnf); first | refine brT ?_ | refine brF ?_)); conv => whnf)
  refine ⟨_, hI, ?_⟩
  ((repeat ((conv => whnf); first | refine brT ?_ | refine brF ?_)); conv => whnf)
  cases g3 : famOk ps (us ++ [newU a b y])
  · rw [g3] at hok
    subst hok
    obtain ⟨rfl, rfl⟩ := hno rfl
    rw [show notB false = true by simp [notB]]
    ((repeat ((conv => whnf); first | refine brT ?_ | refine brF ?_)); conv => whnf)
    exact ⟨[famHS 0 0, .bool false], rfl, rfl, .nl [.tmp 0 [0] false 85 6, .tmp 0 [1] false 89 4] [.old 8, .old 9] ⟨⟨rfl, rfl, rfl, rfl, trivial⟩, ⟨rfl, rfl, rfl, rfl, trivial⟩, rfl⟩⟩
  · rw [g3] at hok
    subst hok
    obtain ⟨rfl, rfl⟩ := hyes rfl
    rw [show notB true = false by simp [notB], ← hU]
    ((repeat ((conv => whnf); first | refine brT ?_ | refine brF ?_)); conv => whnf)
    exact ⟨[famHS _ _, .bool true], rfl, rfl, .inr ⟨[.old 3, .old 7], ⟨rfl, rfl, rfl, rfl, trivial⟩, ⟨rfl, rfl, rfl, rfl, trivial⟩, rfl⟩⟩
end Go.Proofs.YtgkjafmmekjjlaaGreat
namespace Go.Proofs.YtgkjafmmekjjlaaGreat
open Go.Lg Go.Pm
end Go.Proofs.YtgkjafmmekjjlaaGreat
namespace Go.Proofs.YtgkjafmmekjjlaaGreat
open Go.Lg Go.Pm
end Go.Proofs.YtgkjafmmekjjlaaGreat
namespace Go.Proofs.YtgkjafmmekjjlaaGreat
open Go.Lg Go.Pm
end Go.Proofs.YtgkjafmmekjjlaaGreat
namespace Go.Proofs.YtgkjafmmekjjlaaGreat
open Go.Lg Go.Pm
end Go.Proofs.YtgkjafmmekjjlaaGreat
namespace Go.Proofs.YtgkjafmmekjjlaaGreat
open Go.Lg Go.Pm
def smallI (m : Nat) (a : List Int) : Prop := ∀ x ∈ a, 0 ≤ x ∧ x < m
theorem smallI.at {m : Nat} {a : List Int} (h : smallI m a) {i : Nat} (hi : i < a.length) : 0 ≤ a.getD i 0 ∧ a.getD i 0 < m := by rw [getD_lt hi]; exact h _ (List.getElem_mem hi)
end Go.Proofs.YtgkjafmmekjjlaaGreat
namespace Go.Proofs.YtgkjafmmekjjlaaGreat
open Go.Lg Go.Pm
end Go.Proofs.YtgkjafmmekjjlaaGreat
namespace Go.Proofs.YtgkjafmmekjjlaaGreat
open Go.Lg Go.Pm
end Go.Proofs.YtgkjafmmekjjlaaGreat
namespace Go.Proofs.YtgkjafmmekjjlaaGreat
open Go.Lg Go.Pm
end Go.Proofs.YtgkjafmmekjjlaaGreat
namespace Go.Proofs.YtgkjafmmekjjlaaGreat
open Go.Lg Go.Pm
theorem law_joinUnion (ps : List Per) (us : List Uni) (l : Lw) (a b y : Int) (hf : FamOK ps us) : FSpec env.P 6 [famLV ps us, l.lv, .int .i64 a, .int .i64 b, .int .i64 y] (.bool true) := by
  have hI := join_impl l ps us a b y
  have hS0 := join_spec l ps us a b y
  have hT := toLaw_spec l
  have hP0 : (juP l ps us a b y).length ≤ ps.length := by unfold juP; split <;> simp
  have hU0 : (juU l ps us a b y).length ≤ us.length + 1 := by unfold juU; split <;> simp
  generalize juP l ps us a b y = L1 at hI hS0 hP0
  generalize juU l ps us a b y = M1 at hI hS0 hU0
  generalize okJ l ps us a b y = bb at hI hS0
  have hS : FSpec env.P 23 [famLV ps us, l.lv, .int .i64 a, .int .i64 b, .int .i64 y] (.tup [.st [.own 85 6 (L1.map Per.lv), .own 89 4 (M1.map Uni.lv)], .bool bb]) := FSpec_of_HSpecT hS0 (by unfold famHS; simp [exW, exsW])
  have hF : FSpec env.P 24 [famLV ps us, l.lv, .int .i64 a, .int .i64 b, .int .i64 y] (.tup [.st [.own 85 6 (L1.map Per.lv), .own 89 4 (M1.map Uni.lv)], .bool bb]) := FSpec_of_HSpecT hI (by unfold famHS; simp [exW, exsW])
  obtain ⟨ld, lc, la, lg, lw, lh, lp, lm⟩ := l
  refine FSpec_of_code (E := env.x [11, 24, 16] 0) env_ok.x (fn := Tryz.f6) Tryz.func6 rfl Tryz.call6 _ _ ?_
  ((repeat ((conv => whnf); first | refine brT ?_ | refine brF ?_)); conv => whnf)
  refine ⟨_, szFamily_spec ps us _, ?_⟩
  ((repeat ((conv => whnf); first | refine brT ?_ | refine brF ?_)); conv => whnf)
  (refine ⟨fun h => ?_, fun h => ?_⟩ <;> rw [h])
  · ((repeat ((conv => whnf); first | refine brT ?_ | refine brF ?_)); conv => whnf); exact fin rfl
  rw [ltI_f] at h
  obtain ⟨p1, u1, s1⟩ := szFam_ok (by omega) (by omega) hf h
  have hp : ps.length ≤ 1048576 := szFam_p hf h
  have hu : us.length ≤ 1048576 := szFam_u hf h
  have hm1 : (L1.map Per.lv).length = ((markPers 1 L1.length).map Per.lv).length := by simp [markPers_len]
  have hm2 : (M1.map Uni.lv).length = ((markUnis (1 + 6 * L1.length) M1.length).map Uni.lv).length := by simp [markUnis_len]
  have hfl : flatT (.tup [.st [.own 85 6 (L1.map Per.lv), .own 89 4 (M1.map Uni.lv)], .bool bb]) = true := by simp [flatT, flatB, flatsB, flats_pers, flats_unis]
  ((repeat ((conv => whnf); first | refine brT ?_ | refine brF ?_)); conv => whnf)
  refine ⟨false, 0, 0, 0, [0, 2, 4, 5, 6], (.alt 1 (.alt 3 (.alt 7 (.alt 8 (.alt 9 (.alt 10 (.one 11 (.one 12 (.one 13 .done))) (.one 11 (.alt 10 (.one 12 (.one 13 .done)) (.one 12 (.one 10 (.one 13 .done)))))) (.alt 10 (.alt 9 (.one 11 (.one 12 (.one 13 .done))) (.one 11 (.one 9 (.one 12 (.one 13 .done))))) (.one 11 (.alt 9 (.alt 10 (.one 12 (.one 13 .done)) (.one 12 (.one 10 (.one 13 .done)))) (.one 10 (.one 9 (.one 12 (.one 13 .done)))))))) (.one 11 (.one 8 (.alt 9 (.alt 10 (.one 12 (.one 13 .done)) (.one 12 (.one 10 (.one 13 .done)))) (.one 10 (.one 9 (.one 12 (.one 13 .done)))))))) (.one 11 (.one 7 (.one 8 (.alt 9 (.alt 10 (.one 12 (.one 13 .done)) (.one 12 (.one 10 (.one 13 .done)))) (.one 10 (.one 9 (.one 12 (.one 13 .done))))))))) (.one 11 (.one 3 (.one 7 (.one 8 (.alt 9 (.alt 10 (.one 12 (.one 13 .done)) (.one 12 (.one 10 (.one 13 .done)))) (.one 10 (.one 9 (.one 12 (.one 13 .done)))))))))) (.one 11 (.one 1 (.one 3 (.one 7 (.one 8 (.alt 9 (.alt 10 (.one 12 (.one 13 .done)) (.one 12 (.one 10 (.one 13 .done)))) (.one 10 (.one 9 (.one 12 (.one 13 .done))))))))))), by kernel_rfl, ?_⟩
  ((repeat ((conv => whnf); first | refine brT ?_ | refine brF ?_)); conv => whnf)
  apply Exists.intro; apply Exists.intro
  refine And.intro ?_ ?_
  · ((repeat ((conv => whnf); first | refine brT ?_ | refine brF ?_)); conv => whnf)
    refine And.intro ?_ ?_
    · ((repeat ((conv => whnf); first | refine brT ?_ | refine brF ?_)); conv => whnf)
      refine ⟨_, _, _, _, toFamily_hm ps us p1 u1, rfl, rfl, rfl, trivial, ?_⟩
      ((repeat ((conv => whnf); first | refine brT ?_ | refine brF ?_)); conv => whnf)
      refine And.intro ?_ ?_
      · ((repeat ((conv => whnf); first | refine brT ?_ | refine brF ?_)); conv => whnf)
        refine ⟨_, hT, ?_⟩
        ((repeat ((conv => whnf); first | refine brT ?_ | refine brF ?_)); conv => whnf)
        refine And.intro ?_ ?_
        · ((repeat ((conv => whnf); first | refine brT ?_ | refine brF ?_)); conv => whnf)
          refine ⟨rfl, ?_⟩
          ((repeat ((conv => whnf); first | refine brT ?_ | refine brF ?_)); conv => whnf)
          refine ⟨rfl, ?_⟩
          ((repeat ((conv => whnf); first | refine brT ?_ | refine brF ?_)); conv => whnf)
          refine ⟨_, hS, ?_⟩
          rw [hfl]
          ((repeat ((conv => whnf); first | refine brT ?_ | refine brF ?_)); conv => whnf)
          refine And.intro ?_ ?_
          · ((repeat ((conv => whnf); first | refine brT ?_ | refine brF ?_)); conv => whnf)
            refine And.intro ?_ ?_
            · ((repeat ((conv => whnf); first | refine brT ?_ | refine brF ?_)); conv => whnf)
              refine And.intro ?_ ?_
              · ((repeat ((conv => whnf); first | refine brT ?_ | refine brF ?_)); conv => whnf)
                refine Weak.idn ?_ ?_ rfl
                · ((repeat ((conv => whnf); refine ⟨rfl, ?_⟩)); trivial)
                · exact ⟨rfl, rfl, rfl, rfl, rfl, trivial⟩
              · ((repeat ((conv => whnf); first | refine brT ?_ | refine brF ?_)); conv => whnf)
                refine And.intro ?_ ?_
                · ((repeat ((conv => whnf); first | refine brT ?_ | refine brF ?_)); conv => whnf)
                  refine .inr ⟨[.old 0, .old 1, .old 2, .old 3, .old 4], ?_, ⟨rfl, rfl, rfl, rfl, rfl, rfl, rfl, rfl, rfl, rfl, trivial⟩, rfl⟩
                  ((repeat ((conv => whnf); refine ⟨rfl, rfl, ?_⟩)); trivial)
                · ((repeat ((conv => whnf); first | refine brT ?_ | refine brF ?_)); conv => whnf)
                  refine .inr ⟨[.old 0, .old 1, .old 2, .old 3, .old 4], ?_, ⟨rfl, rfl, rfl, rfl, rfl, rfl, rfl, rfl, rfl, rfl, trivial⟩, rfl⟩
                  ((repeat ((conv => whnf); refine ⟨rfl, rfl, ?_⟩)); trivial)
            · ((repeat ((conv => whnf); first | refine brT ?_ | refine brF ?_)); conv => whnf)
              refine And.intro ?_ ?_
              · ((repeat ((conv => whnf); first | refine brT ?_ | refine brF ?_)); conv => whnf)
                refine And.intro ?_ ?_
                · ((repeat ((conv => whnf); first | refine brT ?_ | refine brF ?_)); conv => whnf)
                  refine .inr ⟨[.old 0, .old 1, .old 2, .old 3, .old 4], ?_, ⟨rfl, rfl, rfl, rfl, rfl, rfl, rfl, rfl, rfl, rfl, trivial⟩, rfl⟩
                  ((repeat ((conv => whnf); refine ⟨rfl, rfl, ?_⟩)); trivial)
                · ((repeat ((conv => whnf); first | refine brT ?_ | refine brF ?_)); conv => whnf)
                  refine .inr ⟨[.old 0, .old 1, .old 2, .old 3, .old 4], ?_, ⟨rfl, rfl, rfl, rfl, rfl, rfl, rfl, rfl, rfl, rfl, trivial⟩, rfl⟩
                  ((repeat ((conv => whnf); refine ⟨rfl, rfl, ?_⟩)); trivial)
              · ((repeat ((conv => whnf); first | refine brT ?_ | refine brF ?_)); conv => whnf)
                refine And.intro ?_ ?_
                · ((repeat ((conv => whnf); first | refine brT ?_ | refine brF ?_)); conv => whnf)
                  refine And.intro ?_ ?_
                  · ((repeat ((conv => whnf); first | refine brT ?_ | refine brF ?_)); conv => whnf)
                    refine .inr ⟨[.old 0, .old 1, .old 2, .old 3, .old 4], ?_, ⟨rfl, rfl, rfl, rfl, rfl, rfl, rfl, rfl, rfl, rfl, trivial⟩, rfl⟩
                    ((repeat ((conv => whnf); refine ⟨rfl, rfl, ?_⟩)); trivial)
                  · ((repeat ((conv => whnf); first | refine brT ?_ | refine brF ?_)); conv => whnf)
                    refine .inr ⟨[.old 0, .old 1, .old 2, .old 3, .old 4], ?_, ⟨rfl, rfl, rfl, rfl, rfl, rfl, rfl, rfl, rfl, rfl, trivial⟩, rfl⟩
                    ((repeat ((conv => whnf); refine ⟨rfl, rfl, ?_⟩)); trivial)
                · ((repeat ((conv => whnf); first | refine brT ?_ | refine brF ?_)); conv => whnf)
                  refine .inr ⟨[.old 0, .old 1, .old 2, .old 3, .old 4], ?_, ⟨rfl, rfl, rfl, rfl, rfl, rfl, rfl, rfl, rfl, rfl, trivial⟩, rfl⟩
                  ((repeat ((conv => whnf); refine ⟨rfl, rfl, ?_⟩)); trivial)
          · ((repeat ((conv => whnf); first | refine brT ?_ | refine brF ?_)); conv => whnf)
            refine And.intro ?_ ?_
            · ((repeat ((conv => whnf); first | refine brT ?_ | refine brF ?_)); conv => whnf)
              refine And.intro ?_ ?_
              · ((repeat ((conv => whnf); first | refine brT ?_ | refine brF ?_)); conv => whnf)
                refine .inr ⟨[.old 0, .old 1, .old 2, .old 3, .old 4], ?_, ⟨rfl, rfl, rfl, rfl, rfl, rfl, rfl, rfl, rfl, rfl, trivial⟩, rfl⟩
                ((repeat ((conv => whnf); refine ⟨rfl, rfl, ?_⟩)); trivial)
              · ((repeat ((conv => whnf); first | refine brT ?_ | refine brF ?_)); conv => whnf)
                refine .inr ⟨[.old 0, .old 1, .old 2, .old 3, .old 4], ?_, ⟨rfl, rfl, rfl, rfl, rfl, rfl, rfl, rfl, rfl, rfl, trivial⟩, rfl⟩
                ((repeat ((conv => whnf); refine ⟨rfl, rfl, ?_⟩)); trivial)
            · ((repeat ((conv => whnf); first | refine brT ?_ | refine brF ?_)); conv => whnf)
              refine .inr ⟨[.old 0, .old 1, .old 2, .old 3, .old 4], ?_, ⟨rfl, rfl, rfl, rfl, rfl, rfl, rfl, rfl, rfl, rfl, trivial⟩, rfl⟩
              ((repeat ((conv => whnf); refine ⟨rfl, rfl, ?_⟩)); trivial)
        · ((repeat ((conv => whnf); first | refine brT ?_ | refine brF ?_)); conv => whnf)
          refine ⟨rfl, ?_⟩
          ((repeat ((conv => whnf); first | refine brT ?_ | refine brF ?_)); conv => whnf)
          refine ⟨rfl, ?_⟩
          ((repeat ((conv => whnf); first | refine brT ?_ | refine brF ?_)); conv => whnf)
          refine ⟨_, hS, ?_⟩
          rw [hfl]
          ((repeat ((conv => whnf); first | refine brT ?_ | refine brF ?_)); conv => whnf)
          refine And.intro ?_ ?_
          · ((repeat ((conv => whnf); first | refine brT ?_ | refine brF ?_)); conv => whnf)
            refine And.intro ?_ ?_
            · ((repeat ((conv => whnf); first | refine brT ?_ | refine brF ?_)); conv => whnf)
              refine .inr ⟨[.old 0, .old 1, .old 2, .old 3, .old 4], ?_, ⟨rfl, rfl, rfl, rfl, rfl, rfl, rfl, rfl, rfl, rfl, trivial⟩, rfl⟩
              ((repeat ((conv => whnf); refine ⟨rfl, rfl, ?_⟩)); trivial)
            · ((repeat ((conv => whnf); first | refine brT ?_ | refine brF ?_)); conv => whnf)
              refine .inr ⟨[.old 0, .old 1, .old 2, .old 3, .old 4], ?_, ⟨rfl, rfl, rfl, rfl, rfl, rfl, rfl, rfl, rfl, rfl, trivial⟩, rfl⟩
              ((repeat ((conv => whnf); refine ⟨rfl, rfl, ?_⟩)); trivial)
          · ((repeat ((conv => whnf); first | refine brT ?_ | refine brF ?_)); conv => whnf)
            refine .inr ⟨[.old 0, .old 1, .old 2, .old 3, .old 4], ?_, ⟨rfl, rfl, rfl, rfl, rfl, rfl, rfl, rfl, rfl, rfl, trivial⟩, rfl⟩
            ((repeat ((conv => whnf); refine ⟨rfl, rfl, ?_⟩)); trivial)
      · ((repeat ((conv => whnf); first | refine brT ?_ | refine brF ?_)); conv => whnf)
        refine ⟨_, hT, ?_⟩
        ((repeat ((conv => whnf); first | refine brT ?_ | refine brF ?_)); conv => whnf)
        refine ⟨rfl, ?_⟩
        ((repeat ((conv => whnf); first | refine brT ?_ | refine brF ?_)); conv => whnf)
        refine ⟨rfl, ?_⟩
        ((repeat ((conv => whnf); first | refine brT ?_ | refine brF ?_)); conv => whnf)
        refine ⟨_, hS, ?_⟩
        rw [hfl]
        ((repeat ((conv => whnf); first | refine brT ?_ | refine brF ?_)); conv => whnf)
        refine And.intro ?_ ?_
        · ((repeat ((conv => whnf); first | refine brT ?_ | refine brF ?_)); conv => whnf)
          refine And.intro ?_ ?_
          · ((repeat ((conv => whnf); first | refine brT ?_ | refine brF ?_)); conv => whnf)
            refine .inr ⟨[.old 0, .old 1, .old 2, .old 3, .old 4], ?_, ⟨rfl, rfl, rfl, rfl, rfl, rfl, rfl, rfl, rfl, rfl, trivial⟩, rfl⟩
            ((repeat ((conv => whnf); refine ⟨rfl, rfl, ?_⟩)); trivial)
          · ((repeat ((conv => whnf); first | refine brT ?_ | refine brF ?_)); conv => whnf)
            refine .inr ⟨[.old 0, .old 1, .old 2, .old 3, .old 4], ?_, ⟨rfl, rfl, rfl, rfl, rfl, rfl, rfl, rfl, rfl, rfl, trivial⟩, rfl⟩
            ((repeat ((conv => whnf); refine ⟨rfl, rfl, ?_⟩)); trivial)
        · ((repeat ((conv => whnf); first | refine brT ?_ | refine brF ?_)); conv => whnf)
          refine .inr ⟨[.old 0, .old 1, .old 2, .old 3, .old 4], ?_, ⟨rfl, rfl, rfl, rfl, rfl, rfl, rfl, rfl, rfl, rfl, trivial⟩, rfl⟩
          ((repeat ((conv => whnf); refine ⟨rfl, rfl, ?_⟩)); trivial)
    · ((repeat ((conv => whnf); first | refine brT ?_ | refine brF ?_)); conv => whnf)
      refine ⟨_, _, _, _, toFamily_hm ps us p1 u1, rfl, rfl, rfl, trivial, ?_⟩
      ((repeat ((conv => whnf); first | refine brT ?_ | refine brF ?_)); conv => whnf)
      refine ⟨_, hT, ?_⟩
      ((repeat ((conv => whnf); first | refine brT ?_ | refine brF ?_)); conv => whnf)
      refine ⟨rfl, ?_⟩
      ((repeat ((conv => whnf); first | refine brT ?_ | refine brF ?_)); conv => whnf)
      refine ⟨rfl, ?_⟩
      ((repeat ((conv => whnf); first | refine brT ?_ | refine brF ?_)); conv => whnf)
      refine ⟨_, hS, ?_⟩
      rw [hfl]
      ((repeat ((conv => whnf); first | refine brT ?_ | refine brF ?_)); conv => whnf)
      refine And.intro ?_ ?_
      · ((repeat ((conv => whnf); first | refine brT ?_ | refine brF ?_)); conv => whnf)
        refine And.intro ?_ ?_
        · ((repeat ((conv => whnf); first | refine brT ?_ | refine brF ?_)); conv => whnf)
          refine .inr ⟨[.old 0, .old 1, .old 3, .old 4, .old 2], ?_, ⟨rfl, rfl, rfl, rfl, rfl, rfl, rfl, rfl, rfl, rfl, trivial⟩, rfl⟩
          ((repeat ((conv => whnf); refine ⟨rfl, rfl, ?_⟩)); trivial)
        · ((repeat ((conv => whnf); first | refine brT ?_ | refine brF ?_)); conv => whnf)
          refine .inr ⟨[.old 0, .old 1, .old 3, .old 4, .old 2], ?_, ⟨rfl, rfl, rfl, rfl, rfl, rfl, rfl, rfl, rfl, rfl, trivial⟩, rfl⟩
          ((repeat ((conv => whnf); refine ⟨rfl, rfl, ?_⟩)); trivial)
      · ((repeat ((conv => whnf); first | refine brT ?_ | refine brF ?_)); conv => whnf)
        refine .inr ⟨[.old 0, .old 1, .old 3, .old 4, .old 2], ?_, ⟨rfl, rfl, rfl, rfl, rfl, rfl, rfl, rfl, rfl, rfl, trivial⟩, rfl⟩
        ((repeat ((conv => whnf); refine ⟨rfl, rfl, ?_⟩)); trivial)
  ((repeat ((conv => whnf); first | refine brT ?_ | refine brF ?_)); conv => whnf)
  refine ⟨[], _, _, _, _, toFamily_hm ps us p1 u1, rfl, rfl, rfl, trivial, ?_⟩
  ((repeat ((conv => whnf); first | refine brT ?_ | refine brF ?_)); conv => whnf)
  refine ⟨false, 0, 0, 0, [0, 1, 3, 4, 5], (.alt 2 (.alt 6 (.alt 7 (.alt 8 (.alt 9 (.one 10 (.one 11 (.one 12 .done))) (.one 10 (.alt 9 (.one 11 (.one 12 .done)) (.one 11 (.one 9 (.one 12 .done)))))) (.alt 9 (.alt 8 (.one 10 (.one 11 (.one 12 .done))) (.one 10 (.one 8 (.one 11 (.one 12 .done))))) (.one 10 (.alt 8 (.alt 9 (.one 11 (.one 12 .done)) (.one 11 (.one 9 (.one 12 .done)))) (.one 9 (.one 8 (.one 11 (.one 12 .done)))))))) (.one 10 (.one 7 (.alt 8 (.alt 9 (.one 11 (.one 12 .done)) (.one 11 (.one 9 (.one 12 .done)))) (.one 9 (.one 8 (.one 11 (.one 12 .done)))))))) (.one 10 (.one 6 (.one 7 (.alt 8 (.alt 9 (.one 11 (.one 12 .done)) (.one 11 (.one 9 (.one 12 .done)))) (.one 9 (.one 8 (.one 11 (.one 12 .done))))))))) (.one 10 (.one 2 (.one 6 (.one 7 (.alt 8 (.alt 9 (.one 11 (.one 12 .done)) (.one 11 (.one 9 (.one 12 .done)))) (.one 9 (.one 8 (.one 11 (.one 12 .done)))))))))), by kernel_rfl, ?_⟩
  ((repeat ((conv => whnf); first | refine brT ?_ | refine brF ?_)); conv => whnf)
  apply Exists.intro; apply Exists.intro
  refine And.intro ?_ ?_
  · ((repeat ((conv => whnf); first | refine brT ?_ | refine brF ?_)); conv => whnf)
    refine And.intro ?_ ?_
    · ((repeat ((conv => whnf); first | refine brT ?_ | refine brF ?_)); conv => whnf)
      refine ⟨_, hT, ?_⟩
      ((repeat ((conv => whnf); first | refine brT ?_ | refine brF ?_)); conv => whnf)
      refine And.intro ?_ ?_
      · ((repeat ((conv => whnf); first | refine brT ?_ | refine brF ?_)); conv => whnf)
        refine ⟨_, _, _, _, hI, rfl, rfl, rfl, rfl, rfl, ⟨rfl, flats_pers _, flats_unis _, trivial⟩, ?_⟩
        ((repeat ((conv => whnf); first | refine brT ?_ | refine brF ?_)); conv => whnf)
        refine And.intro ?_ ?_
        · ((repeat ((conv => whnf); first | refine brT ?_ | refine brF ?_)); conv => whnf)
          refine And.intro ?_ ?_
          · ((repeat ((conv => whnf); first | refine brT ?_ | refine brF ?_)); conv => whnf)
            refine And.intro ?_ ?_
            · ((repeat ((conv => whnf); first | refine brT ?_ | refine brF ?_)); conv => whnf)
              refine Weak.idn ?_ ?_ rfl
              · ((repeat ((conv => whnf); refine ⟨rfl, ?_⟩)); trivial)
              · exact ⟨rfl, rfl, rfl, rfl, rfl, rfl, rfl, rfl, rfl, rfl, rfl, trivial⟩
            · ((repeat ((conv => whnf); first | refine brT ?_ | refine brF ?_)); conv => whnf)
              refine And.intro ?_ ?_
              · ((repeat ((conv => whnf); first | refine brT ?_ | refine brF ?_)); conv => whnf)
                refine .inr ⟨[.old 0, .old 1, .old 2, .old 3, .old 4, .old 5, .old 6, .old 7, .old 8, .old 9, .old 10], ?_, ⟨rfl, rfl, rfl, rfl, rfl, rfl, rfl, rfl, rfl, rfl, rfl, rfl, rfl, rfl, rfl, rfl, rfl, rfl, rfl, rfl, rfl, rfl, trivial⟩, rfl⟩
                ((repeat ((conv => whnf); refine ⟨rfl, rfl, ?_⟩)); trivial)
              · ((repeat ((conv => whnf); first | refine brT ?_ | refine brF ?_)); conv => whnf)
                refine .inr ⟨[.old 0, .old 1, .old 2, .old 3, .old 4, .old 5, .old 6, .old 7, .old 8, .old 9, .old 10], ?_, ⟨rfl, rfl, rfl, rfl, rfl, rfl, rfl, rfl, rfl, rfl, rfl, rfl, rfl, rfl, rfl, rfl, rfl, rfl, rfl, rfl, rfl, rfl, trivial⟩, rfl⟩
                ((repeat ((conv => whnf); refine ⟨rfl, rfl, ?_⟩)); trivial)
          · ((repeat ((conv => whnf); first | refine brT ?_ | refine brF ?_)); conv => whnf)
            refine And.intro ?_ ?_
            · ((repeat ((conv => whnf); first | refine brT ?_ | refine brF ?_)); conv => whnf)
              refine And.intro ?_ ?_
              · ((repeat ((conv => whnf); first | refine brT ?_ | refine brF ?_)); conv => whnf)
                refine .inr ⟨[.old 0, .old 1, .old 2, .old 3, .old 4, .old 5, .old 6, .old 7, .old 8, .old 9, .old 10], ?_, ⟨rfl, rfl, rfl, rfl, rfl, rfl, rfl, rfl, rfl, rfl, rfl, rfl, rfl, rfl, rfl, rfl, rfl, rfl, rfl, rfl, rfl, rfl, trivial⟩, rfl⟩
                ((repeat ((conv => whnf); refine ⟨rfl, rfl, ?_⟩)); trivial)
              · ((repeat ((conv => whnf); first | refine brT ?_ | refine brF ?_)); conv => whnf)
                refine .inr ⟨[.old 0, .old 1, .old 2, .old 3, .old 4, .old 5, .old 6, .old 7, .old 8, .old 9, .old 10], ?_, ⟨rfl, rfl, rfl, rfl, rfl, rfl, rfl, rfl, rfl, rfl, rfl, rfl, rfl, rfl, rfl, rfl, rfl, rfl, rfl, rfl, rfl, rfl, trivial⟩, rfl⟩
                ((repeat ((conv => whnf); refine ⟨rfl, rfl, ?_⟩)); trivial)
            · ((repeat ((conv => whnf); first | refine brT ?_ | refine brF ?_)); conv => whnf)
              refine And.intro ?_ ?_
              · ((repeat ((conv => whnf); first | refine brT ?_ | refine brF ?_)); conv => whnf)
                refine And.intro ?_ ?_
                · ((repeat ((conv => whnf); first | refine brT ?_ | refine brF ?_)); conv => whnf)
                  refine .inr ⟨[.old 0, .old 1, .old 2, .old 3, .old 4, .old 5, .old 6, .old 7, .old 8, .old 9, .old 10], ?_, ⟨rfl, rfl, rfl, rfl, rfl, rfl, rfl, rfl, rfl, rfl, rfl, rfl, rfl, rfl, rfl, rfl, rfl, rfl, rfl, rfl, rfl, rfl, trivial⟩, rfl⟩
                  ((repeat ((conv => whnf); refine ⟨rfl, rfl, ?_⟩)); trivial)
                · ((repeat ((conv => whnf); first | refine brT ?_ | refine brF ?_)); conv => whnf)
                  refine .inr ⟨[.old 0, .old 1, .old 2, .old 3, .old 4, .old 5, .old 6, .old 7, .old 8, .old 9, .old 10], ?_, ⟨rfl, rfl, rfl, rfl, rfl, rfl, rfl, rfl, rfl, rfl, rfl, rfl, rfl, rfl, rfl, rfl, rfl, rfl, rfl, rfl, rfl, rfl, trivial⟩, rfl⟩
                  ((repeat ((conv => whnf); refine ⟨rfl, rfl, ?_⟩)); trivial)
              · ((repeat ((conv => whnf); first | refine brT ?_ | refine brF ?_)); conv => whnf)
                refine .inr ⟨[.old 0, .old 1, .old 2, .old 3, .old 4, .old 5, .old 6, .old 7, .old 8, .old 9, .old 10], ?_, ⟨rfl, rfl, rfl, rfl, rfl, rfl, rfl, rfl, rfl, rfl, rfl, rfl, rfl, rfl, rfl, rfl, rfl, rfl, rfl, rfl, rfl, rfl, trivial⟩, rfl⟩
                ((repeat ((conv => whnf); refine ⟨rfl, rfl, ?_⟩)); trivial)
        · ((repeat ((conv => whnf); first | refine brT ?_ | refine brF ?_)); conv => whnf)
          refine And.intro ?_ ?_
          · ((repeat ((conv => whnf); first | refine brT ?_ | refine brF ?_)); conv => whnf)
            refine And.intro ?_ ?_
            · ((repeat ((conv => whnf); first | refine brT ?_ | refine brF ?_)); conv => whnf)
              refine .inr ⟨[.old 0, .old 1, .old 2, .old 3, .old 4, .old 5, .old 6, .old 7, .old 8, .old 9, .old 10], ?_, ⟨rfl, rfl, rfl, rfl, rfl, rfl, rfl, rfl, rfl, rfl, rfl, rfl, rfl, rfl, rfl, rfl, rfl, rfl, rfl, rfl, rfl, rfl, trivial⟩, rfl⟩
              ((repeat ((conv => whnf); refine ⟨rfl, rfl, ?_⟩)); trivial)
            · ((repeat ((conv => whnf); first | refine brT ?_ | refine brF ?_)); conv => whnf)
              refine .inr ⟨[.old 0, .old 1, .old 2, .old 3, .old 4, .old 5, .old 6, .old 7, .old 8, .old 9, .old 10], ?_, ⟨rfl, rfl, rfl, rfl, rfl, rfl, rfl, rfl, rfl, rfl, rfl, rfl, rfl, rfl, rfl, rfl, rfl, rfl, rfl, rfl, rfl, rfl, trivial⟩, rfl⟩
              ((repeat ((conv => whnf); refine ⟨rfl, rfl, ?_⟩)); trivial)
          · ((repeat ((conv => whnf); first | refine brT ?_ | refine brF ?_)); conv => whnf)
            refine .inr ⟨[.old 0, .old 1, .old 2, .old 3, .old 4, .old 5, .old 6, .old 7, .old 8, .old 9, .old 10], ?_, ⟨rfl, rfl, rfl, rfl, rfl, rfl, rfl, rfl, rfl, rfl, rfl, rfl, rfl, rfl, rfl, rfl, rfl, rfl, rfl, rfl, rfl, rfl, trivial⟩, rfl⟩
            ((repeat ((conv => whnf); refine ⟨rfl, rfl, ?_⟩)); trivial)
      · ((repeat ((conv => whnf); first | refine brT ?_ | refine brF ?_)); conv => whnf)
        refine ⟨_, _, _, _, hI, rfl, rfl, rfl, rfl, rfl, ⟨rfl, flats_pers _, flats_unis _, trivial⟩, ?_⟩
        ((repeat ((conv => whnf); first | refine brT ?_ | refine brF ?_)); conv => whnf)
        refine And.intro ?_ ?_
        · ((repeat ((conv => whnf); first | refine brT ?_ | refine brF ?_)); conv => whnf)
          refine And.intro ?_ ?_
          · ((repeat ((conv => whnf); first | refine brT ?_ | refine brF ?_)); conv => whnf)
            refine .inr ⟨[.old 0, .old 1, .old 2, .old 3, .old 4, .old 5, .old 6, .old 7, .old 9, .old 10, .old 8], ?_, ⟨rfl, rfl, rfl, rfl, rfl, rfl, rfl, rfl, rfl, rfl, rfl, rfl, rfl, rfl, rfl, rfl, rfl, rfl, rfl, rfl, rfl, rfl, trivial⟩, rfl⟩
            ((repeat ((conv => whnf); refine ⟨rfl, rfl, ?_⟩)); trivial)
          · ((repeat ((conv => whnf); first | refine brT ?_ | refine brF ?_)); conv => whnf)
            refine .inr ⟨[.old 0, .old 1, .old 2, .old 3, .old 4, .old 5, .old 6, .old 7, .old 9, .old 10, .old 8], ?_, ⟨rfl, rfl, rfl, rfl, rfl, rfl, rfl, rfl, rfl, rfl, rfl, rfl, rfl, rfl, rfl, rfl, rfl, rfl, rfl, rfl, rfl, rfl, trivial⟩, rfl⟩
            ((repeat ((conv => whnf); refine ⟨rfl, rfl, ?_⟩)); trivial)
        · ((repeat ((conv => whnf); first | refine brT ?_ | refine brF ?_)); conv => whnf)
          refine .inr ⟨[.old 0, .old 1, .old 2, .old 3, .old 4, .old 5, .old 6, .old 7, .old 9, .old 10, .old 8], ?_, ⟨rfl, rfl, rfl, rfl, rfl, rfl, rfl, rfl, rfl, rfl, rfl, rfl, rfl, rfl, rfl, rfl, rfl, rfl, rfl, rfl, rfl, rfl, trivial⟩, rfl⟩
          ((repeat ((conv => whnf); refine ⟨rfl, rfl, ?_⟩)); trivial)
    · ((repeat ((conv => whnf); first | refine brT ?_ | refine brF ?_)); conv => whnf)
      refine ⟨_, hT, ?_⟩
      ((repeat ((conv => whnf); first | refine brT ?_ | refine brF ?_)); conv => whnf)
      refine ⟨_, _, _, _, hI, rfl, rfl, rfl, rfl, rfl, ⟨rfl, flats_pers _, flats_unis _, trivial⟩, ?_⟩
      ((repeat ((conv => whnf); first | refine brT ?_ | refine brF ?_)); conv => whnf)
      refine And.intro ?_ ?_
      · ((repeat ((conv => whnf); first | refine brT ?_ | refine brF ?_)); conv => whnf)
        refine And.intro ?_ ?_
        · ((repeat ((conv => whnf); first | refine brT ?_ | refine brF ?_)); conv => whnf)
          refine .inr ⟨[.old 0, .old 1, .old 2, .old 3, .old 4, .old 5, .old 6, .old 7, .old 9, .old 10, .old 8], ?_, ⟨rfl, rfl, rfl, rfl, rfl, rfl, rfl, rfl, rfl, rfl, rfl, rfl, rfl, rfl, rfl, rfl, rfl, rfl, rfl, rfl, rfl, rfl, trivial⟩, rfl⟩
          ((repeat ((conv => whnf); refine ⟨rfl, rfl, ?_⟩)); trivial)
        · ((repeat ((conv => whnf); first | refine brT ?_ | refine brF ?_)); conv => whnf)
          refine .inr ⟨[.old 0, .old 1, .old 2, .old 3, .old 4, .old 5, .old 6, .old 7, .old 9, .old 10, .old 8], ?_, ⟨rfl, rfl, rfl, rfl, rfl, rfl, rfl, rfl, rfl, rfl, rfl, rfl, rfl, rfl, rfl, rfl, rfl, rfl, rfl, rfl, rfl, rfl, trivial⟩, rfl⟩
          ((repeat ((conv => whnf); refine ⟨rfl, rfl, ?_⟩)); trivial)
      · ((repeat ((conv => whnf); first | refine brT ?_ | refine brF ?_)); conv => whnf)
        refine .inr ⟨[.old 0, .old 1, .old 2, .old 3, .old 4, .old 5, .old 6, .old 7, .old 9, .old 10, .old 8], ?_, ⟨rfl, rfl, rfl, rfl, rfl, rfl, rfl, rfl, rfl, rfl, rfl, rfl, rfl, rfl, rfl, rfl, rfl, rfl, rfl, rfl, rfl, rfl, trivial⟩, rfl⟩
        ((repeat ((conv => whnf); refine ⟨rfl, rfl, ?_⟩)); trivial)
  ((repeat ((conv => whnf); first | refine brT ?_ | refine brF ?_)); conv => whnf)
  refine ⟨rfl, ?_⟩
  ((repeat ((conv => whnf); first | refine brT ?_ | refine brF ?_)); conv => whnf)
  refine ⟨rfl, ?_⟩
  ((repeat ((conv => whnf); first | refine brT ?_ | refine brF ?_)); conv => whnf)
  refine ⟨_, eqFamily_spec L1 L1 M1 M1, ?_⟩
  rw [eqFam_refl]
  ((repeat ((conv => whnf); first | refine brT ?_ | refine brF ?_)); conv => whnf)
  rw [show notB true = false by simp [notB]]
  ((repeat ((conv => whnf); first | refine brT ?_ | refine brF ?_)); conv => whnf)
  rw [eqB_refl, show notB true = false by simp [notB]]
  ((repeat ((conv => whnf); first | refine brT ?_ | refine brF ?_)); conv => whnf)
  refine ⟨true, by kernel_rfl, ?_⟩
  ((repeat ((conv => whnf); first | refine brT ?_ | refine brF ?_)); conv => whnf)
  refine ⟨_, toFamily_spec ps us p1 u1, ?_⟩
  ((repeat ((conv => whnf); first | refine brT ?_ | refine brF ?_)); conv => whnf)
  refine ⟨rfl, ?_⟩
  ((repeat ((conv => whnf); first | refine brT ?_ | refine brF ?_)); conv => whnf)
  refine ⟨rfl, ?_⟩
  ((repeat ((conv => whnf); first | refine brT ?_ | refine brF ?_)); conv => whnf)
  refine ⟨_, eqFamily_spec ps ps us us, ?_⟩
  rw [eqFam_refl]
  ((repeat ((conv => whnf); first | refine brT ?_ | refine brF ?_)); conv => whnf)
  rw [show notB true = false by simp [notB]]
  ((repeat ((conv => whnf); first | refine brT ?_ | refine brF ?_)); conv => whnf)
  refine ⟨[5, 6], _, _, _, _, markFamily_hm ps us 1 (by omega), rfl, rfl, rfl, trivial, ?_⟩
  ((repeat ((conv => whnf); first | refine brT ?_ | refine brF ?_)); conv => whnf)
  rw [show ltI ((1 + 6 * ps.length + 4 * us.length : Nat) : Int) 0 = false by rw [ltI_f]; omega]
  ((repeat ((conv => whnf); first | refine brT ?_ | refine brF ?_)); conv => whnf)
  refine ⟨rfl, ?_⟩
  ((repeat ((conv => whnf); first | refine brT ?_ | refine brF ?_)); conv => whnf)
  refine ⟨rfl, ?_⟩
  ((repeat ((conv => whnf); first | refine brT ?_ | refine brF ?_)); conv => whnf)
  refine ⟨_, eqFamily_spec L1 L1 M1 M1, ?_⟩
  rw [eqFam_refl]
  ((repeat ((conv => whnf); first | refine brT ?_ | refine brF ?_)); conv => whnf)
  rw [show notB true = false by simp [notB]]
  ((repeat ((conv => whnf); first | refine brT ?_ | refine brF ?_)); conv => whnf)
  rw [eqB_refl, show notB true = false by simp [notB]]
  ((repeat ((conv => whnf); first | refine brT ?_ | refine brF ?_)); conv => whnf)
  refine ⟨[8, 9], _, _, _, _, markFamily_hm L1 M1 1 (by omega), rfl, rfl, rfl, trivial, ?_⟩
  ((repeat ((conv => whnf); first | refine brT ?_ | refine brF ?_)); conv => whnf)
  refine ⟨hm1, ?_⟩
  ((repeat ((conv => whnf); first | refine brT ?_ | refine brF ?_)); conv => whnf)
  refine ⟨hm2, ?_⟩
  ((repeat ((conv => whnf); first | refine brT ?_ | refine brF ?_)); conv => whnf)
  refine ⟨_, heldFamily_spec 1 L1.length M1.length (by omega), ?_⟩
  ((repeat ((conv => whnf); first | refine brT ?_ | refine brF ?_)); conv => whnf)
  rw [show ltI ((1 + 6 * L1.length + 4 * M1.length : Nat) : Int) 0 = false by rw [ltI_f]; omega]
  ((repeat ((conv => whnf); first | refine brT ?_ | refine brF ?_)); conv => whnf)
  rw [eqI_refl, show notB true = false by simp [notB]]
  ((repeat ((conv => whnf); first | refine brT ?_ | refine brF ?_)); conv => whnf)
  refine ⟨false, 0, 0, 0, [0, 2, 4, 5, 6], (.alt 1 (.alt 3 (.alt 7 (.alt 8 (.alt 9 (.alt 10 (.one 11 (.one 12 (.one 13 .done))) (.one 11 (.alt 10 (.one 12 (.one 13 .done)) (.one 12 (.one 10 (.one 13 .done)))))) (.alt 10 (.alt 9 (.one 11 (.one 12 (.one 13 .done))) (.one 11 (.one 9 (.one 12 (.one 13 .done))))) (.one 11 (.alt 9 (.alt 10 (.one 12 (.one 13 .done)) (.one 12 (.one 10 (.one 13 .done)))) (.one 10 (.one 9 (.one 12 (.one 13 .done)))))))) (.one 11 (.one 8 (.alt 9 (.alt 10 (.one 12 (.one 13 .done)) (.one 12 (.one 10 (.one 13 .done)))) (.one 10 (.one 9 (.one 12 (.one 13 .done)))))))) (.one 11 (.one 7 (.one 8 (.alt 9 (.alt 10 (.one 12 (.one 13 .done)) (.one 12 (.one 10 (.one 13 .done)))) (.one 10 (.one 9 (.one 12 (.one 13 .done))))))))) (.one 11 (.one 3 (.one 7 (.one 8 (.alt 9 (.alt 10 (.one 12 (.one 13 .done)) (.one 12 (.one 10 (.one 13 .done)))) (.one 10 (.one 9 (.one 12 (.one 13 .done)))))))))) (.one 11 (.one 1 (.one 3 (.one 7 (.one 8 (.alt 9 (.alt 10 (.one 12 (.one 13 .done)) (.one 12 (.one 10 (.one 13 .done)))) (.one 10 (.one 9 (.one 12 (.one 13 .done))))))))))), by kernel_rfl, ?_⟩
  ((repeat ((conv => whnf); first | refine brT ?_ | refine brF ?_)); conv => whnf)
  apply Exists.intro; apply Exists.intro
  refine And.intro ?_ ?_
  · ((repeat ((conv => whnf); first | refine brT ?_ | refine brF ?_)); conv => whnf)
    refine And.intro ?_ ?_
    · ((repeat ((conv => whnf); first | refine brT ?_ | refine brF ?_)); conv => whnf)
      refine ⟨_, _, _, _, toFamily_hm ps us p1 u1, rfl, rfl, rfl, trivial, ?_⟩
      ((repeat ((conv => whnf); first | refine brT ?_ | refine brF ?_)); conv => whnf)
      refine And.intro ?_ ?_
      · ((repeat ((conv => whnf); first | refine brT ?_ | refine brF ?_)); conv => whnf)
        refine ⟨_, hT, ?_⟩
        ((repeat ((conv => whnf); first | refine brT ?_ | refine brF ?_)); conv => whnf)
        refine And.intro ?_ ?_
        · ((repeat ((conv => whnf); first | refine brT ?_ | refine brF ?_)); conv => whnf)
          refine ⟨_, _, _, _, hI, rfl, rfl, rfl, rfl, rfl, ⟨rfl, flats_pers _, flats_unis _, trivial⟩, ?_⟩
          ((repeat ((conv => whnf); first | refine brT ?_ | refine brF ?_)); conv => whnf)
          refine And.intro ?_ ?_
          · ((repeat ((conv => whnf); first | refine brT ?_ | refine brF ?_)); conv => whnf)
            refine And.intro ?_ ?_
            · ((repeat ((conv => whnf); first | refine brT ?_ | refine brF ?_)); conv => whnf)
              refine And.intro ?_ ?_
              · ((repeat ((conv => whnf); first | refine brT ?_ | refine brF ?_)); conv => whnf)
                refine Weak.idn ?_ ?_ rfl
                · ((repeat ((conv => whnf); refine ⟨rfl, ?_⟩)); trivial)
                · exact ⟨rfl, rfl, rfl, rfl, rfl, rfl, rfl, rfl, rfl, rfl, rfl, rfl, rfl, rfl, rfl, rfl, trivial⟩
              · ((repeat ((conv => whnf); first | refine brT ?_ | refine brF ?_)); conv => whnf)
                refine And.intro ?_ ?_
                · ((repeat ((conv => whnf); first | refine brT ?_ | refine brF ?_)); conv => whnf)
                  refine .inr ⟨[.old 0, .old 1, .old 2, .old 3, .old 4, .old 5, .old 6, .old 7, .old 8, .old 9, .old 10, .old 11, .old 12, .old 13, .old 14, .old 15], ?_, ⟨rfl, rfl, rfl, rfl, rfl, rfl, rfl, rfl, rfl, rfl, rfl, rfl, rfl, rfl, rfl, rfl, rfl, rfl, rfl, rfl, rfl, rfl, rfl, rfl, rfl, rfl, rfl, rfl, rfl, rfl, rfl, rfl, trivial⟩, rfl⟩
                  ((repeat ((conv => whnf); refine ⟨rfl, rfl, ?_⟩)); trivial)
                · ((repeat ((conv => whnf); first | refine brT ?_ | refine brF ?_)); conv => whnf)
                  refine .inr ⟨[.old 0, .old 1, .old 2, .old 3, .old 4, .old 5, .old 6, .old 7, .old 8, .old 9, .old 10, .old 11, .old 12, .old 13, .old 14, .old 15], ?_, ⟨rfl, rfl, rfl, rfl, rfl, rfl, rfl, rfl, rfl, rfl, rfl, rfl, rfl, rfl, rfl, rfl, rfl, rfl, rfl, rfl, rfl, rfl, rfl, rfl, rfl, rfl, rfl, rfl, rfl, rfl, rfl, rfl, trivial⟩, rfl⟩
                  ((repeat ((conv => whnf); refine ⟨rfl, rfl, ?_⟩)); trivial)
            · ((repeat ((conv => whnf); first | refine brT ?_ | refine brF ?_)); conv => whnf)
              refine And.intro ?_ ?_
              · ((repeat ((conv => whnf); first | refine brT ?_ | refine brF ?_)); conv => whnf)
                refine And.intro ?_ ?_
                · ((repeat ((conv => whnf); first | refine brT ?_ | refine brF ?_)); conv => whnf)
                  refine .inr ⟨[.old 0, .old 1, .old 2, .old 3, .old 4, .old 5, .old 6, .old 7, .old 8, .old 9, .old 10, .old 11, .old 12, .old 13, .old 14, .old 15], ?_, ⟨rfl, rfl, rfl, rfl, rfl, rfl, rfl, rfl, rfl, rfl, rfl, rfl, rfl, rfl, rfl, rfl, rfl, rfl, rfl, rfl, rfl, rfl, rfl, rfl, rfl, rfl, rfl, rfl, rfl, rfl, rfl, rfl, trivial⟩, rfl⟩
                  ((repeat ((conv => whnf); refine ⟨rfl, rfl, ?_⟩)); trivial)
                · ((repeat ((conv => whnf); first | refine brT ?_ | refine brF ?_)); conv => whnf)
                  refine .inr ⟨[.old 0, .old 1, .old 2, .old 3, .old 4, .old 5, .old 6, .old 7, .old 8, .old 9, .old 10, .old 11, .old 12, .old 13, .old 14, .old 15], ?_, ⟨rfl, rfl, rfl, rfl, rfl, rfl, rfl, rfl, rfl, rfl, rfl, rfl, rfl, rfl, rfl, rfl, rfl, rfl, rfl, rfl, rfl, rfl, rfl, rfl, rfl, rfl, rfl, rfl, rfl, rfl, rfl, rfl, trivial⟩, rfl⟩
                  ((repeat ((conv => whnf); refine ⟨rfl, rfl, ?_⟩)); trivial)
              · ((repeat ((conv => whnf); first | refine brT ?_ | refine brF ?_)); conv => whnf)
                refine And.intro ?_ ?_
                · ((repeat ((conv => whnf); first | refine brT ?_ | refine brF ?_)); conv => whnf)
                  refine And.intro ?_ ?_
                  · ((repeat ((conv => whnf); first | refine brT ?_ | refine brF ?_)); conv => whnf)
                    refine .inr ⟨[.old 0, .old 1, .old 2, .old 3, .old 4, .old 5, .old 6, .old 7, .old 8, .old 9, .old 10, .old 11, .old 12, .old 13, .old 14, .old 15], ?_, ⟨rfl, rfl, rfl, rfl, rfl, rfl, rfl, rfl, rfl, rfl, rfl, rfl, rfl, rfl, rfl, rfl, rfl, rfl, rfl, rfl, rfl, rfl, rfl, rfl, rfl, rfl, rfl, rfl, rfl, rfl, rfl, rfl, trivial⟩, rfl⟩
                    ((repeat ((conv => whnf); refine ⟨rfl, rfl, ?_⟩)); trivial)
                  · ((repeat ((conv => whnf); first | refine brT ?_ | refine brF ?_)); conv => whnf)
                    refine .inr ⟨[.old 0, .old 1, .old 2, .old 3, .old 4, .old 5, .old 6, .old 7, .old 8, .old 9, .old 10, .old 11, .old 12, .old 13, .old 14, .old 15], ?_, ⟨rfl, rfl, rfl, rfl, rfl, rfl, rfl, rfl, rfl, rfl, rfl, rfl, rfl, rfl, rfl, rfl, rfl, rfl, rfl, rfl, rfl, rfl, rfl, rfl, rfl, rfl, rfl, rfl, rfl, rfl, rfl, rfl, trivial⟩, rfl⟩
                    ((repeat ((conv => whnf); refine ⟨rfl, rfl, ?_⟩)); trivial)
                · ((repeat ((conv => whnf); first | refine brT ?_ | refine brF ?_)); conv => whnf)
                  refine .inr ⟨[.old 0, .old 1, .old 2, .old 3, .old 4, .old 5, .old 6, .old 7, .old 8, .old 9, .old 10, .old 11, .old 12, .old 13, .old 14, .old 15], ?_, ⟨rfl, rfl, rfl, rfl, rfl, rfl, rfl, rfl, rfl, rfl, rfl, rfl, rfl, rfl, rfl, rfl, rfl, rfl, rfl, rfl, rfl, rfl, rfl, rfl, rfl, rfl, rfl, rfl, rfl, rfl, rfl, rfl, trivial⟩, rfl⟩
                  ((repeat ((conv => whnf); refine ⟨rfl, rfl, ?_⟩)); trivial)
          · ((repeat ((conv => whnf); first | refine brT ?_ | refine brF ?_)); conv => whnf)
            refine And.intro ?_ ?_
            · ((repeat ((conv => whnf); first | refine brT ?_ | refine brF ?_)); conv => whnf)
              refine And.intro ?_ ?_
              · ((repeat ((conv => whnf); first | refine brT ?_ | refine brF ?_)); conv => whnf)
                refine .inr ⟨[.old 0, .old 1, .old 2, .old 3, .old 4, .old 5, .old 6, .old 7, .old 8, .old 9, .old 10, .old 11, .old 12, .old 13, .old 14, .old 15], ?_, ⟨rfl, rfl, rfl, rfl, rfl, rfl, rfl, rfl, rfl, rfl, rfl, rfl, rfl, rfl, rfl, rfl, rfl, rfl, rfl, rfl, rfl, rfl, rfl, rfl, rfl, rfl, rfl, rfl, rfl, rfl, rfl, rfl, trivial⟩, rfl⟩
                ((repeat ((conv => whnf); refine ⟨rfl, rfl, ?_⟩)); trivial)
              · ((repeat ((conv => whnf); first | refine brT ?_ | refine brF ?_)); conv => whnf)
                refine .inr ⟨[.old 0, .old 1, .old 2, .old 3, .old 4, .old 5, .old 6, .old 7, .old 8, .old 9, .old 10, .old 11, .old 12, .old 13, .old 14, .old 15], ?_, ⟨rfl, rfl, rfl, rfl, rfl, rfl, rfl, rfl, rfl, rfl, rfl, rfl, rfl, rfl, rfl, rfl, rfl, rfl, rfl, rfl, rfl, rfl, rfl, rfl, rfl, rfl, rfl, rfl, rfl, rfl, rfl, rfl, trivial⟩, rfl⟩
                ((repeat ((conv => whnf); refine ⟨rfl, rfl, ?_⟩)); trivial)
            · ((repeat ((conv => whnf); first | refine brT ?_ | refine brF ?_)); conv => whnf)
              refine .inr ⟨[.old 0, .old 1, .old 2, .old 3, .old 4, .old 5, .old 6, .old 7, .old 8, .old 9, .old 10, .old 11, .old 12, .old 13, .old 14, .old 15], ?_, ⟨rfl, rfl, rfl, rfl, rfl, rfl, rfl, rfl, rfl, rfl, rfl, rfl, rfl, rfl, rfl, rfl, rfl, rfl, rfl, rfl, rfl, rfl, rfl, rfl, rfl, rfl, rfl, rfl, rfl, rfl, rfl, rfl, trivial⟩, rfl⟩
              ((repeat ((conv => whnf); refine ⟨rfl, rfl, ?_⟩)); trivial)
        · ((repeat ((conv => whnf); first | refine brT ?_ | refine brF ?_)); conv => whnf)
          refine ⟨_, _, _, _, hI, rfl, rfl, rfl, rfl, rfl, ⟨rfl, flats_pers _, flats_unis _, trivial⟩, ?_⟩
          ((repeat ((conv => whnf); first | refine brT ?_ | refine brF ?_)); conv => whnf)
          refine And.intro ?_ ?_
          · ((repeat ((conv => whnf); first | refine brT ?_ | refine brF ?_)); conv => whnf)
            refine And.intro ?_ ?_
            · ((repeat ((conv => whnf); first | refine brT ?_ | refine brF ?_)); conv => whnf)
              refine .inr ⟨[.old 0, .old 1, .old 2, .old 3, .old 4, .old 5, .old 6, .old 7, .old 8, .old 9, .old 10, .old 11, .old 12, .old 14, .old 15, .old 13], ?_, ⟨rfl, rfl, rfl, rfl, rfl, rfl, rfl, rfl, rfl, rfl, rfl, rfl, rfl, rfl, rfl, rfl, rfl, rfl, rfl, rfl, rfl, rfl, rfl, rfl, rfl, rfl, rfl, rfl, rfl, rfl, rfl, rfl, trivial⟩, rfl⟩
              ((repeat ((conv => whnf); refine ⟨rfl, rfl, ?_⟩)); trivial)
            · ((repeat ((conv => whnf); first | refine brT ?_ | refine brF ?_)); conv => whnf)
              refine .inr ⟨[.old 0, .old 1, .old 2, .old 3, .old 4, .old 5, .old 6, .old 7, .old 8, .old 9, .old 10, .old 11, .old 12, .old 14, .old 15, .old 13], ?_, ⟨rfl, rfl, rfl, rfl, rfl, rfl, rfl, rfl, rfl, rfl, rfl, rfl, rfl, rfl, rfl, rfl, rfl, rfl, rfl, rfl, rfl, rfl, rfl, rfl, rfl, rfl, rfl, rfl, rfl, rfl, rfl, rfl, trivial⟩, rfl⟩
              ((repeat ((conv => whnf); refine ⟨rfl, rfl, ?_⟩)); trivial)
          · ((repeat ((conv => whnf); first | refine brT ?_ | refine brF ?_)); conv => whnf)
            refine .inr ⟨[.old 0, .old 1, .old 2, .old 3, .old 4, .old 5, .old 6, .old 7, .old 8, .old 9, .old 10, .old 11, .old 12, .old 14, .old 15, .old 13], ?_, ⟨rfl, rfl, rfl, rfl, rfl, rfl, rfl, rfl, rfl, rfl, rfl, rfl, rfl, rfl, rfl, rfl, rfl, rfl, rfl, rfl, rfl, rfl, rfl, rfl, rfl, rfl, rfl, rfl, rfl, rfl, rfl, rfl, trivial⟩, rfl⟩
            ((repeat ((conv => whnf); refine ⟨rfl, rfl, ?_⟩)); trivial)
      · ((repeat ((conv => whnf); first | refine brT ?_ | refine brF ?_)); conv => whnf)
        refine ⟨_, hT, ?_⟩
        ((repeat ((conv => whnf); first | refine brT ?_ | refine brF ?_)); conv => whnf)
        refine ⟨_, _, _, _, hI, rfl, rfl, rfl, rfl, rfl, ⟨rfl, flats_pers _, flats_unis _, trivial⟩, ?_⟩
        ((repeat ((conv => whnf); first | refine brT ?_ | refine brF ?_)); conv => whnf)
        refine And.intro ?_ ?_
        · ((repeat ((conv => whnf); first | refine brT ?_ | refine brF ?_)); conv => whnf)
          refine And.intro ?_ ?_
          · ((repeat ((conv => whnf); first | refine brT ?_ | refine brF ?_)); conv => whnf)
            refine .inr ⟨[.old 0, .old 1, .old 2, .old 3, .old 4, .old 5, .old 6, .old 7, .old 8, .old 9, .old 10, .old 11, .old 12, .old 14, .old 15, .old 13], ?_, ⟨rfl, rfl, rfl, rfl, rfl, rfl, rfl, rfl, rfl, rfl, rfl, rfl, rfl, rfl, rfl, rfl, rfl, rfl, rfl, rfl, rfl, rfl, rfl, rfl, rfl, rfl, rfl, rfl, rfl, rfl, rfl, rfl, trivial⟩, rfl⟩
            ((repeat ((conv => whnf); refine ⟨rfl, rfl, ?_⟩)); trivial)
          · ((repeat ((conv => whnf); first | refine brT ?_ | refine brF ?_)); conv => whnf)
            refine .inr ⟨[.old 0, .old 1, .old 2, .old 3, .old 4, .old 5, .old 6, .old 7, .old 8, .old 9, .old 10, .old 11, .old 12, .old 14, .old 15, .old 13], ?_, ⟨rfl, rfl, rfl, rfl, rfl, rfl, rfl, rfl, rfl, rfl, rfl, rfl, rfl, rfl, rfl, rfl, rfl, rfl, rfl, rfl, rfl, rfl, rfl, rfl, rfl, rfl, rfl, rfl, rfl, rfl, rfl, rfl, trivial⟩, rfl⟩
            ((repeat ((conv => whnf); refine ⟨rfl, rfl, ?_⟩)); trivial)
        · ((repeat ((conv => whnf); first | refine brT ?_ | refine brF ?_)); conv => whnf)
          refine .inr ⟨[.old 0, .old 1, .old 2, .old 3, .old 4, .old 5, .old 6, .old 7, .old 8, .old 9, .old 10, .old 11, .old 12, .old 14, .old 15, .old 13], ?_, ⟨rfl, rfl, rfl, rfl, rfl, rfl, rfl, rfl, rfl, rfl, rfl, rfl, rfl, rfl, rfl, rfl, rfl, rfl, rfl, rfl, rfl, rfl, rfl, rfl, rfl, rfl, rfl, rfl, rfl, rfl, rfl, rfl, trivial⟩, rfl⟩
          ((repeat ((conv => whnf); refine ⟨rfl, rfl, ?_⟩)); trivial)
    · ((repeat ((conv => whnf); first | refine brT ?_ | refine brF ?_)); conv => whnf)
      refine ⟨_, _, _, _, toFamily_hm ps us p1 u1, rfl, rfl, rfl, trivial, ?_⟩
      ((repeat ((conv => whnf); first | refine brT ?_ | refine brF ?_)); conv => whnf)
      refine ⟨_, hT, ?_⟩
      ((repeat ((conv => whnf); first | refine brT ?_ | refine brF ?_)); conv => whnf)
      refine ⟨_, _, _, _, hI, rfl, rfl, rfl, rfl, rfl, ⟨rfl, flats_pers _, flats_unis _, trivial⟩, ?_⟩
      ((repeat ((conv => whnf); first | refine brT ?_ | refine brF ?_)); conv => whnf)
      refine And.intro ?_ ?_
      · ((repeat ((conv => whnf); first | refine brT ?_ | refine brF ?_)); conv => whnf)
        refine And.intro ?_ ?_
        · ((repeat ((conv => whnf); first | refine brT ?_ | refine brF ?_)); conv => whnf)
          refine .inr ⟨[.old 0, .old 1, .old 2, .old 3, .old 4, .old 5, .old 6, .old 7, .old 8, .old 9, .old 10, .old 12, .old 13, .old 14, .old 15, .old 11], ?_, ⟨rfl, rfl, rfl, rfl, rfl, rfl, rfl, rfl, rfl, rfl, rfl, rfl, rfl, rfl, rfl, rfl, rfl, rfl, rfl, rfl, rfl, rfl, rfl, rfl, rfl, rfl, rfl, rfl, rfl, rfl, rfl, rfl, trivial⟩, rfl⟩
          ((repeat ((conv => whnf); refine ⟨rfl, rfl, ?_⟩)); trivial)
        · ((repeat ((conv => whnf); first | refine brT ?_ | refine brF ?_)); conv => whnf)
          refine .inr ⟨[.old 0, .old 1, .old 2, .old 3, .old 4, .old 5, .old 6, .old 7, .old 8, .old 9, .old 10, .old 12, .old 13, .old 14, .old 15, .old 11], ?_, ⟨rfl, rfl, rfl, rfl, rfl, rfl, rfl, rfl, rfl, rfl, rfl, rfl, rfl, rfl, rfl, rfl, rfl, rfl, rfl, rfl, rfl, rfl, rfl, rfl, rfl, rfl, rfl, rfl, rfl, rfl, rfl, rfl, trivial⟩, rfl⟩
          ((repeat ((conv => whnf); refine ⟨rfl, rfl, ?_⟩)); trivial)
      · ((repeat ((conv => whnf); first | refine brT ?_ | refine brF ?_)); conv => whnf)
        refine .inr ⟨[.old 0, .old 1, .old 2, .old 3, .old 4, .old 5, .old 6, .old 7, .old 8, .old 9, .old 10, .old 12, .old 13, .old 14, .old 15, .old 11], ?_, ⟨rfl, rfl, rfl, rfl, rfl, rfl, rfl, rfl, rfl, rfl, rfl, rfl, rfl, rfl, rfl, rfl, rfl, rfl, rfl, rfl, rfl, rfl, rfl, rfl, rfl, rfl, rfl, rfl, rfl, rfl, rfl, rfl, trivial⟩, rfl⟩
        ((repeat ((conv => whnf); refine ⟨rfl, rfl, ?_⟩)); trivial)
  ((repeat ((conv => whnf); first | refine brT ?_ | refine brF ?_)); conv => whnf)
  refine ⟨rfl, ?_⟩
  ((repeat ((conv => whnf); first | refine brT ?_ | refine brF ?_)); conv => whnf)
  refine ⟨rfl, ?_⟩
  ((repeat ((conv => whnf); first | refine brT ?_ | refine brF ?_)); conv => whnf)
  refine ⟨_, eqFamily_spec L1 L1 M1 M1, ?_⟩
  rw [eqFam_refl]
  ((repeat ((conv => whnf); first | refine brT ?_ | refine brF ?_)); conv => whnf)
  rw [show notB true = false by simp [notB]]
  ((repeat ((conv => whnf); first | refine brT ?_ | refine brF ?_)); conv => whnf)
  rw [eqB_refl, show notB true = false by simp [notB]]
  ((repeat ((conv => whnf); first | refine brT ?_ | refine brF ?_)); conv => whnf)
  refine ⟨hm1, ?_⟩
  ((repeat ((conv => whnf); first | refine brT ?_ | refine brF ?_)); conv => whnf)
  refine ⟨hm2, ?_⟩
  ((repeat ((conv => whnf); first | refine brT ?_ | refine brF ?_)); conv => whnf)
  refine ⟨_, heldFamily_spec 1 L1.length M1.length (by omega), ?_⟩
  ((repeat ((conv => whnf); first | refine brT ?_ | refine brF ?_)); conv => whnf)
  rw [show ltI ((1 + 6 * L1.length + 4 * M1.length : Nat) : Int) 0 = false by rw [ltI_f]; omega]
  ((repeat ((conv => whnf); first | refine brT ?_ | refine brF ?_)); conv => whnf)
  rw [eqI_refl, show notB true = false by simp [notB]]
  ((repeat ((conv => whnf); first | refine brT ?_ | refine brF ?_)); conv => whnf)
  exact fin rfl
end Go.Proofs.YtgkjafmmekjjlaaGreat
namespace Go.Proofs.YtgkjafmmekjjlaaGreat
open Go.Lg Go.RowKit Go.ChangeShapes Go.WideShapes Go.Deep Go.Joins
theorem list_of {α : Type} {lv : α → LV} {Q : α → Prop} : ∀ (xs : List LV), (∀ x ∈ xs, ∃ p, x = lv p ∧ Q p) → ∃ ps : List α, xs = ps.map lv ∧ ∀ p ∈ ps, Q p
  | [], _ => ⟨[], rfl, by simp⟩
  | x :: xs, h => by
    obtain ⟨p, rfl, hp⟩ := h x (by simp)
    obtain ⟨ps, rfl, hps⟩ := list_of xs fun y hy => h y (by simp [hy])
    exact ⟨p :: ps, rfl, List.forall_mem_cons.2 ⟨hp, hps⟩⟩
section
variable {H : Type} {enc : TypeId × Value → H} {w : World}
end
end Go.Proofs.YtgkjafmmekjjlaaGreat
namespace Go.Proofs.YtgkjafmmekjjlaaGreat
open Go.Lg
abbrev shPer : Sh := .st [.str, .int .i64, .int .i64, .int .i64, .int .i64, .int .i64]
abbrev shUni : Sh := .st [.int .i64, .int .i64, .int .i64, .int .i64]
abbrev shFam : Sh := .st [.sl (.st [.str, .int .i64, .int .i64, .int .i64, .int .i64, .int .i64]), .sl (.st [.int .i64, .int .i64, .int .i64, .int .i64])]
theorem per_of_sh {x : LV} (h : hasSh shPer x) : ∃ p : Per, x = p.lv ∧ p.name.size ≤ maxLen := by
  simp only [hasSh] at h
  obtain ⟨xs, rfl, h⟩ := h
  match xs, h with
  | [a, b, c, d, e, f], h =>
    simp only [hasShs, hasSh] at h
    obtain ⟨⟨s, rfl, hs⟩, ⟨n1, rfl⟩, ⟨n2, rfl⟩, ⟨n3, rfl⟩, ⟨n4, rfl⟩, ⟨n5, rfl⟩, _⟩ := h
    exact ⟨⟨s, n1, n2, n3, n4, n5⟩, rfl, hs⟩
  | [], h => simp [hasShs] at h
  | [_], h => simp [hasShs] at h
  | [_, _], h => simp [hasShs] at h
  | [_, _, _], h => simp [hasShs] at h
  | [_, _, _, _], h => simp [hasShs] at h
  | [_, _, _, _, _], h => simp [hasShs] at h
  | _ :: _ :: _ :: _ :: _ :: _ :: _ :: _, h => simp [hasShs] at h
theorem uni_of_sh {x : LV} (h : hasSh shUni x) : ∃ u : Uni, x = u.lv ∧ True := by
  simp only [hasSh] at h
  obtain ⟨xs, rfl, h⟩ := h
  match xs, h with
  | [a, b, c, d], h =>
    simp only [hasShs, hasSh] at h
    obtain ⟨⟨n1, rfl⟩, ⟨n2, rfl⟩, ⟨n3, rfl⟩, ⟨n4, rfl⟩, _⟩ := h
    exact ⟨⟨n1, n2, n3, n4⟩, rfl, trivial⟩
  | [], h => simp [hasShs] at h
  | [_], h => simp [hasShs] at h
  | [_, _], h => simp [hasShs] at h
  | [_, _, _], h => simp [hasShs] at h
  | _ :: _ :: _ :: _ :: _ :: _, h => simp [hasShs] at h
theorem fam_of_sh {x : LV} (h : hasSh shFam x) : ∃ (ps : List Per) (us : List Uni), x = famLV ps us ∧ FamOK ps us := by
  simp only [hasSh] at h
  obtain ⟨xs, rfl, h⟩ := h
  match xs, h with
  | [a, b], h =>
    simp only [hasShs, hasSh] at h
    obtain ⟨⟨ys, rfl, hl, hy⟩, ⟨zs, rfl, hm, hz⟩, _⟩ := h
    obtain ⟨ps, rfl, hps⟩ := list_of (lv := Per.lv) (Q := fun p => p.name.size ≤ maxLen) ys fun y hy' => per_of_sh (by simp only [hasSh]; exact hy y hy')
    obtain ⟨us, rfl, _⟩ := list_of (lv := Uni.lv) (Q := fun _ => True) zs fun y hy' => uni_of_sh (by simp only [hasSh]; exact hz y hy')
    exact ⟨ps, us, rfl, ⟨by simpa using hl, by simpa using hm, hps⟩⟩
  | [], h => simp [hasShs] at h
  | [_], h => simp [hasShs] at h
  | _ :: _ :: _ :: _, h => simp [hasShs] at h
end Go.Proofs.YtgkjafmmekjjlaaGreat
