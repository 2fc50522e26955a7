/- Contracts of functions of the program and of its model, told over readings. -/
import Derived.Test.YtdhmnojnkgmmnaaCWGD
import Derived.Test.YtdhmnojnkgmmnaaCWGC
import Derived.Test.YtdhmnojnkgmmnaaCLgRN
import Derived.Test.YtdhmnojnkgmmnaaCLgRM
import Derived.Test.YtdhmnojnkgmmnaaCWGA
import Derived.Test.YtdhmnojnkgmmnaaCLgW
namespace Go.Proofs.Ytdhmnojnkgmmnaa
open Go.Lg Go.Pm
set_option maxHeartbeats 6400000
set_option maxRecDepth 10000
set_option linter.unusedVariables false
set_option linter.unusedSimpArgs false

def famBad (ps : List Per) (w c g : List Int) (i : Nat) : Bool := match ps[i]? with
  | some p => (leI 0 p.father && notB (eqI (g.getD i 0) (stpV w c 5 1 (g.getD p.father.toNat 0)))) || (leI 0 p.mother && notB (eqI (g.getD i 0) (stpV w c 5 2 (g.getD p.mother.toNat 0))))
  | none => false
theorem famBad_at {ps : List Per} {w c g : List Int} {i : Nat} (h : i < ps.length) : famBad ps w c g i = ((leI 0 ps[i].father && notB (eqI (g.getD i 0) (stpV w c 5 1 (g.getD ps[i].father.toNat 0)))) || (leI 0 ps[i].mother && notB (eqI (g.getD i 0) (stpV w c 5 2 (g.getD ps[i].mother.toNat 0))))) := by
  simp [famBad, h]
def wedBad (us : List Uni) (w g : List Int) (k i : Nat) : Bool := (us.take k).any fun u => decide (u.wife.toNat = i) && badB g (bdU w u)
theorem wedBad_succ {us : List Uni} {w g : List Int} {k : Nat} (h : k < us.length) (i : Nat) : wedBad us w g (k + 1) i = (wedBad us w g k i || (decide (us[k].wife.toNat = i) && badB g (bdU w us[k]))) := by
  unfold wedBad
  rw [List.take_succ_eq_append_getElem h, List.any_append]; simp
def mkB (n : Nat) (f : Nat → Bool) : List Bool := (List.range n).map f
theorem mkB_len (n : Nat) (f : Nat → Bool) : (mkB n f).length = n := by simp [mkB]
theorem mkB_get {n i : Nat} {f : Nat → Bool} (h : i < n) : ((mkB n f).map bLV)[i]? = some (bLV (f i)) := by simp [mkB, h]
theorem mkB_set {n i : Nat} {f f' : Nat → Bool} (h : i < n) (hf : ∀ j, j < n → f' j = (if j = i then true else f j)) : ((mkB n f).map bLV).set i (.bool true) = (mkB n f').map bLV := by
  apply List.ext_getElem?
  intro j
  rw [List.getElem?_set]
  by_cases hj : j < n
  · split
    · rename_i e
      subst e
      rw [if_pos (by simp [mkB_len, hj]), mkB_get hj, hf _ hj, if_pos rfl]; rfl
    · rename_i e
      rw [mkB_get hj, mkB_get hj, hf _ hj, if_neg (fun h => e h.symm)]
  · rw [if_neg (by omega)]
    rw [List.getElem?_eq_none (by simp [mkB_len]; omega), List.getElem?_eq_none (by simp [mkB_len]; omega)]
theorem mkB_ext {n : Nat} {f f' : Nat → Bool} (h : ∀ j, j < n → f j = f' j) : mkB n f = mkB n f' := List.map_congr_left fun j hj => h j (List.mem_range.1 hj)
/-- The marks behind the persons and so many unions. -/
def errF (ps : List Per) (us : List Uni) (w c g : List Int) (k : Nat) (i : Nat) : Bool := famBad ps w c g i || wedBad us w g k i
def rowE (ps : List Per) (w c g : List Int) (k : Nat) : List LV := fillLV (fun i => bLV (famBad ps w c g i)) (bLV false) (List.range ps.length) k
theorem rowE_len {ps : List Per} {w c g : List Int} {k : Nat} (h : k ≤ ps.length) : (rowE ps w c g k).length = ps.length := by
  unfold rowE; rw [fill_len (by simpa using h)]; simp
theorem rowE_get {ps : List Per} {w c g : List Int} {k : Nat} (h : k < ps.length) : (rowE ps w c g k)[k]? = some (bLV false) := fill_get (by simpa using h)
theorem rowE_set {ps : List Per} {w c g : List Int} {k : Nat} (h : k < ps.length) {b : Bool} (e : famBad ps w c g k = b) : (rowE ps w c g k).set k (.bool b) = rowE ps w c g (k + 1) := by
  have := fill_set (lv := fun i => bLV (famBad ps w c g i)) (z := bLV false) (ps := List.range ps.length) (k := k) (by simpa using h)
  rw [List.getElem_range, e] at this
  exact this
theorem rowE_all (ps : List Per) (us : List Uni) (w c g : List Int) : rowE ps w c g ps.length = (mkB ps.length (errF ps us w c g 0)).map bLV := by
  have := fill_all (lv := fun i => bLV (famBad ps w c g i)) (z := bLV false) (ps := List.range ps.length)
  rw [List.length_range] at this
  unfold rowE
  rw [this]
  simp [mkB, errF, wedBad, List.map_map, Function.comp_def]
theorem bdsTo_any {ps : List Per} {sx : Int} {q g : List Int} {i : Nat} (hi : i < ps.length) : ∀ k, k ≤ ps.length → ((bdsTo ps sx q k).any fun b => decide (b.to.toNat = i) && badB g b) = (decide (i < k) && (notB (eqI (parS ps[i] sx) (-1)) && badB g ⟨parS ps[i] sx, (i : Int), q⟩))
  | 0, _ => by simp [bdsTo]
  | k + 1, hk => by
    have hlt : k < ps.length := hk
    have ih := bdsTo_any (sx := sx) (q := q) (g := g) hi k (by omega)
    cases e : eqI (parS ps[k] sx) (-1)
    · rw [bdsTo_yes hlt e, List.any_append, ih]
      simp only [List.any_cons, List.any_nil, Bool.or_false, Int.toNat_natCast]
      by_cases h : k = i
      · subst h
        simp [e, notB]
      · have e1 : decide (k = i) = false := by simp [h]
        have e2 : decide (i < k + 1) = decide (i < k) := by simp; omega
        rw [e1, e2]; simp
    · rw [← bdsTo_no hlt e, ih]
      by_cases h : k = i
      · subst h
        rw [e]; simp [notB]
      · have e2 : decide (i < k + 1) = decide (i < k) := by simp; omega
        rw [e2]
theorem par_le {x : Int} {i : Nat} (h : parIn x i) : leI 0 x = notB (eqI x (-1)) := by
  rcases h with h | h
  · subst h; rw [eqI_refl]; simp [notB]; rw [leI_f]; omega
  · rw [show eqI x (-1) = false by rw [eqI_f]; omega]; simp [notB]; rw [leI_t]; omega
theorem errN_bit {ps : List Per} {us : List Uni} {w c g : List Int} (h : givB ps us w c g 0 = true) {i : Nat} (hi : i < ps.length) : (errN ps us w c g).testBit i = errF ps us w c g us.length i := by
  obtain ⟨hf, hcl, hg, hgi⟩ := giv_at h
  have hp := parsIn_of (famOk_parts hf).2.2.1
  unfold errN
  rw [badN_bit]
  simp only [bdsJ, List.any_append, Nat.zero_testBit, Bool.false_or]
  rw [bdsTo_any hi _ (Nat.le_refl _), bdsTo_any hi _ (Nat.le_refl _)]
  unfold errF wedBad
  rw [famBad_at hi, List.take_length, List.any_map]
  rw [show decide (i < ps.length) = true by simp [hi]]
  simp only [Bool.true_and]
  obtain ⟨f1, f2⟩ := hp i hi
  have step : ∀ (sx x : Int), (sx = 1 ∨ sx = 2) → parIn x i → (notB (eqI x (-1)) && badB g ⟨x, (i : Int), stpL w c 5 sx⟩) = (leI 0 x && notB (eqI (g.getD i 0) (stpV w c 5 sx (g.getD x.toNat 0)))) := by
    intro sx x hs hx
    rw [par_le hx]
    cases e : eqI x (-1)
    · rw [eqI_f] at e
      obtain ⟨x0, x1⟩ := hx.resolve_left e
      obtain ⟨y0, y1⟩ := hgi x.toNat (by omega)
      rw [stp_same hcl 5 sx hs y0 (by omega)]
      rfl
    · simp [notB]
  have s1 := step 1 ps[i].father (.inl rfl) f1
  have s2 := step 2 ps[i].mother (.inr rfl) f2
  have p1 : parS ps[i] (sxJ 0) = ps[i].father := by unfold parS; rw [show sxJ 0 = 1 from rfl, eqI_refl]
  have p2 : parS ps[i] (sxJ 1) = ps[i].mother := by unfold parS; rw [show sxJ 1 = 2 from rfl, show eqI 2 1 = false by rw [eqI_f]; decide]
  rw [p1, p2]
  unfold toCh
  rw [show sxJ 0 = 1 from rfl, show sxJ 1 = 2 from rfl, s1, s2]
  rw [Bool.or_assoc, Bool.or_comm]
  rfl
theorem errL_eq {ps : List Per} {us : List Uni} {w c g : List Int} (h : givB ps us w c g 0 = true) : listN (errN ps us w c g) = listedTo (mkB ps.length (errF ps us w c g us.length)) (mkB ps.length (errF ps us w c g us.length)).length := by
  obtain ⟨hf, hcl, hg, hgi⟩ := giv_at h
  have l40 := (famOk_parts hf).1
  have hin := bdsJ_in (ps := ps) (us := us) hf hcl 2
  rw [listTo_cut (n := ps.length) (fun i h1 h2 => ?_) l40, mkB_len]
  · unfold listTo listedTo
    congr 1
    apply List.filter_congr
    intro i hi
    rw [List.mem_range] at hi
    rw [errN_bit h hi]
    simp [mkB, hi]
  · unfold errN
    rw [badN_bit, Nat.zero_testBit, Bool.false_or]
    apply Bool.eq_false_iff.2
    intro hh
    obtain ⟨b, hb, hk⟩ := List.any_eq_true.1 hh
    simp only [Bool.and_eq_true, decide_eq_true_eq] at hk
    have := (hin b hb).tl
    omega
theorem errors_spec (ps : List Per) (us : List Uni) (w c g : List Int) (hw : w.length ≤ 1048576) (hc : c.length ≤ 1048576) :
    HSpec env.P 39 [famLV ps us, clsLV w c, rowSl g] [] (errHS ps us w c g) [.arr 3 1 ((errL ps us w c g).map intLV)] := by
  refine HSpec_of_code (E := env.x [121] 0) env_ok.x (fn := Try.f39) Try.func39 rfl Try.call39 _ _ _ _ ?_
  unfold errHS errL
  have hG : (g.map intLV).length = g.length := List.length_map ..
  ((repeat ((conv => whnf); first | refine brT ?_ | refine brF ?_)); conv => whnf)
  refine ⟨_, giv_spec ps us w c g 0 hw hc, ?_⟩
  ((repeat ((conv => whnf); first | refine brT ?_ | refine brF ?_)); conv => whnf)
  cases h1 : givB ps us w c g 0
  · rw [show notB false = true by simp [notB]]
    ((repeat ((conv => whnf); first | refine brT ?_ | refine brF ?_)); conv => whnf)
    exact ⟨[.hs 0 0, .bool false], rfl, rfl, .nl [.tmp 0 [] false 3 1] [.old 2] ⟨⟨rfl, rfl, rfl, rfl, trivial⟩, ⟨rfl, rfl, trivial⟩, rfl⟩⟩
  rw [show notB true = false by simp [notB]]
  obtain ⟨hf, hcl, hg, hgi⟩ := giv_at h1
  obtain ⟨l40, u60, hper, _, _⟩ := famOk_parts hf
  have hpars := parsIn_of hper
  have hp' : ps.length ≤ Go.maxLen := by unfold Go.maxLen; omega
  rw [errL_eq h1]
  ((repeat ((conv => whnf); first | refine brT ?_ | refine brF ?_)); conv => whnf)
  intro _
  rw [hG, hg]
  ((repeat ((conv => whnf); first | refine brT ?_ | refine brF ?_)); conv => whnf)
  refine ⟨ps.length, by simp, by simp, by show 1 * ps.length ≤ _; omega, hp', rfl, by decide, ?_⟩
  ((repeat ((conv => whnf); first | refine brT ?_ | refine brF ?_)); conv => whnf)
  intro _
  ((repeat ((conv => whnf); first | refine brT ?_ | refine brF ?_)); conv => whnf)
  refine loop_rule (α := Nat) (fun k => [(24, .int .i64 (k : Int))]) (fun k => [.box (famLV ps us), .box (clsLV w c), .arr 4 1 (rowE ps w c g k)]) (fun k => ps.length - k) (fun k => k ≤ ps.length) 0 (Nat.zero_le _) ?_ ?_
  · refine ⟨?_, ⟨rfl, rfl, by simp [rowE, fillLV, bLV], trivial⟩, rfl, rfl⟩
    ((repeat ((conv => whnf); refine ⟨rfl, ?_⟩)); trivial)
  intro k hk
  generalize hK : kk _ = KK
  have hrl := rowE_len (w := w) (c := c) (g := g) hk
  ((repeat ((conv => whnf); first | refine brT ?_ | refine brF ?_)); conv => whnf)
  (refine ⟨fun g1 => ?_, fun g1 => ?_⟩ <;> rw [g1])
  · have hlt : k < ps.length := by rw [ltI_t] at g1; simp at g1; omega
    have e := step_i hlt hp'
    obtain ⟨f1, f2⟩ := hpars k hlt
    have hfb := famBad_at (w := w) (c := c) (g := g) hlt
    have hgt : (ps.map Per.lv)[k]? = some ps[k].lv := by simp [hlt]
    have hset : ∀ b, famBad ps w c g k = b → (rowE ps w c g k).set k (.bool b) = rowE ps w c g (k + 1) := fun b h => rowE_set hlt h
    have hrg : (rowE ps w c g k)[k]? = some (bLV false) := rowE_get hlt
    have hgk := ints_at (g := g) (x := (k : Int)) (by omega) (by simp; omega)
    simp only [Int.toNat_natCast] at hgk
    generalize ps[k] = p at f1 f2 hfb hgt
    obtain ⟨nm, sx, fa, mo, bo, di⟩ := p
    simp only at f1 f2 hfb
    ((repeat ((conv => whnf); first | refine brT ?_ | refine brF ?_)); conv => whnf)
    refine ⟨k, _, rfl, hgt, rfl, ?_⟩
    ((repeat ((conv => whnf); first | refine brT ?_ | refine brF ?_)); conv => whnf)
    refine ⟨true, by kernel_rfl, ?_⟩
    ((repeat ((conv => whnf); first | refine brT ?_ | refine brF ?_)); conv => whnf)
    (refine ⟨fun t1 => ?_, fun t1 => ?_⟩ <;> rw [t1])
    · have a1 : fa.toNat < g.length := by rw [leI_t] at t1; rcases f1 with f1 | f1 <;> omega
      have a0 : (0 : Int) ≤ fa := leI_t.1 t1
      obtain ⟨y0, y1⟩ := hgi fa.toNat a1
      have hst := l6Step_spec w c 5 1 (g.getD fa.toNat 0) hcl y0 (by omega)
      ((repeat ((conv => whnf); first | refine brT ?_ | refine brF ?_)); conv => whnf)
      refine ⟨k, intLV (g.getD k 0), rfl, hgk, rfl, ?_⟩
      ((repeat ((conv => whnf); first | refine brT ?_ | refine brF ?_)); conv => whnf)
      refine ⟨fa.toNat, intLV (g.getD fa.toNat 0), by show fa = ((fa.toNat : Nat) : Int); omega, ints_at a0 a1, rfl, ?_⟩
      ((repeat ((conv => whnf); first | refine brT ?_ | refine brF ?_)); conv => whnf)
      refine ⟨_, hst, ?_⟩
      ((repeat ((conv => whnf); first | refine brT ?_ | refine brF ?_)); conv => whnf)
      (refine ⟨fun t2 => ?_, fun t2 => ?_⟩ <;> rw [t2])
      · ((repeat ((conv => whnf); first | refine brT ?_ | refine brF ?_)); conv => whnf)
        refine ⟨hrl.symm, rfl, k, rfl, by omega, ?_⟩
        ((repeat ((conv => whnf); first | refine brT ?_ | refine brF ?_)); conv => whnf)
        refine ⟨hrl.symm, k, [], bLV false, rfl, by simp only [getP]; rw [hrg], rfl, rfl, rfl, rowE ps w c g (k + 1), by rw [hrg]; exact hset _ (by rw [hfb, show leI 0 fa = true from t1, t2]; rfl), ?_⟩
        ((repeat ((conv => whnf); first | refine brT ?_ | refine brF ?_)); conv => whnf)
        subst hK
        refine round_end (k + 1) hlt (by omega) ⟨?_, ⟨rfl, rfl, rfl, trivial⟩, rfl, rfl⟩
        ((repeat ((conv => whnf); first | refine ⟨e, ?_⟩ | refine ⟨rfl, ?_⟩)); trivial)
      · ((repeat ((conv => whnf); first | refine brT ?_ | refine brF ?_)); conv => whnf)
        (refine ⟨fun t3 => ?_, fun t3 => ?_⟩ <;> rw [t3])
        · have b1 : mo.toNat < g.length := by rw [leI_t] at t3; rcases f2 with f2 | f2 <;> omega
          have b0 : (0 : Int) ≤ mo := leI_t.1 t3
          obtain ⟨z0, z1⟩ := hgi mo.toNat b1
          have hst2 := l6Step_spec w c 5 2 (g.getD mo.toNat 0) hcl z0 (by omega)
          ((repeat ((conv => whnf); first | refine brT ?_ | refine brF ?_)); conv => whnf)
          refine ⟨k, intLV (g.getD k 0), rfl, hgk, rfl, ?_⟩
          ((repeat ((conv => whnf); first | refine brT ?_ | refine brF ?_)); conv => whnf)
          refine ⟨mo.toNat, intLV (g.getD mo.toNat 0), by show mo = ((mo.toNat : Nat) : Int); omega, ints_at b0 b1, rfl, ?_⟩
          ((repeat ((conv => whnf); first | refine brT ?_ | refine brF ?_)); conv => whnf)
          refine ⟨_, hst2, ?_⟩
          ((repeat ((conv => whnf); first | refine brT ?_ | refine brF ?_)); conv => whnf)
          refine ⟨hrl.symm, rfl, k, rfl, by omega, ?_⟩
          ((repeat ((conv => whnf); first | refine brT ?_ | refine brF ?_)); conv => whnf)
          refine ⟨hrl.symm, k, [], bLV false, rfl, by simp only [getP]; rw [hrg], rfl, rfl, rfl, rowE ps w c g (k + 1), by rw [hrg]; exact hset _ (by rw [hfb, show leI 0 fa = true from t1, t2, show leI 0 mo = true from t3]; rfl), ?_⟩
          ((repeat ((conv => whnf); first | refine brT ?_ | refine brF ?_)); conv => whnf)
          subst hK
          refine round_end (k + 1) hlt (by omega) ⟨?_, ⟨rfl, rfl, rfl, trivial⟩, rfl, rfl⟩
          ((repeat ((conv => whnf); first | refine ⟨e, ?_⟩ | refine ⟨rfl, ?_⟩)); trivial)
        · 
          ((repeat ((conv => whnf); first | refine brT ?_ | refine brF ?_)); conv => whnf)
          refine ⟨hrl.symm, rfl, k, rfl, by omega, ?_⟩
          ((repeat ((conv => whnf); first | refine brT ?_ | refine brF ?_)); conv => whnf)
          refine ⟨hrl.symm, k, [], bLV false, rfl, by simp only [getP]; rw [hrg], rfl, rfl, rfl, rowE ps w c g (k + 1), by rw [hrg]; exact hset _ (by rw [hfb, show leI 0 fa = true from t1, t2, show leI 0 mo = false from t3]; rfl), ?_⟩
          ((repeat ((conv => whnf); first | refine brT ?_ | refine brF ?_)); conv => whnf)
          subst hK
          refine round_end (k + 1) hlt (by omega) ⟨?_, ⟨rfl, rfl, rfl, trivial⟩, rfl, rfl⟩
          ((repeat ((conv => whnf); first | refine ⟨e, ?_⟩ | refine ⟨rfl, ?_⟩)); trivial)
    · ((repeat ((conv => whnf); first | refine brT ?_ | refine brF ?_)); conv => whnf)
      (refine ⟨fun t3 => ?_, fun t3 => ?_⟩ <;> rw [t3])
      · have b1 : mo.toNat < g.length := by rw [leI_t] at t3; rcases f2 with f2 | f2 <;> omega
        have b0 : (0 : Int) ≤ mo := leI_t.1 t3
        obtain ⟨z0, z1⟩ := hgi mo.toNat b1
        have hst2 := l6Step_spec w c 5 2 (g.getD mo.toNat 0) hcl z0 (by omega)
        ((repeat ((conv => whnf); first | refine brT ?_ | refine brF ?_)); conv => whnf)
        refine ⟨k, intLV (g.getD k 0), rfl, hgk, rfl, ?_⟩
        ((repeat ((conv => whnf); first | refine brT ?_ | refine brF ?_)); conv => whnf)
        refine ⟨mo.toNat, intLV (g.getD mo.toNat 0), by show mo = ((mo.toNat : Nat) : Int); omega, ints_at b0 b1, rfl, ?_⟩
        ((repeat ((conv => whnf); first | refine brT ?_ | refine brF ?_)); conv => whnf)
        refine ⟨_, hst2, ?_⟩
        ((repeat ((conv => whnf); first | refine brT ?_ | refine brF ?_)); conv => whnf)
        refine ⟨hrl.symm, rfl, k, rfl, by omega, ?_⟩
        ((repeat ((conv => whnf); first | refine brT ?_ | refine brF ?_)); conv => whnf)
        refine ⟨hrl.symm, k, [], bLV false, rfl, by simp only [getP]; rw [hrg], rfl, rfl, rfl, rowE ps w c g (k + 1), by rw [hrg]; exact hset _ (by rw [hfb, show leI 0 fa = false from t1, show leI 0 mo = true from t3]; rfl), ?_⟩
        ((repeat ((conv => whnf); first | refine brT ?_ | refine brF ?_)); conv => whnf)
        subst hK
        refine round_end (k + 1) hlt (by omega) ⟨?_, ⟨rfl, rfl, rfl, trivial⟩, rfl, rfl⟩
        ((repeat ((conv => whnf); first | refine ⟨e, ?_⟩ | refine ⟨rfl, ?_⟩)); trivial)
      · 
        ((repeat ((conv => whnf); first | refine brT ?_ | refine brF ?_)); conv => whnf)
        refine ⟨hrl.symm, rfl, k, rfl, by omega, ?_⟩
        ((repeat ((conv => whnf); first | refine brT ?_ | refine brF ?_)); conv => whnf)
        refine ⟨hrl.symm, k, [], bLV false, rfl, by simp only [getP]; rw [hrg], rfl, rfl, rfl, rowE ps w c g (k + 1), by rw [hrg]; exact hset _ (by rw [hfb, show leI 0 fa = false from t1, show leI 0 mo = false from t3]; rfl), ?_⟩
        ((repeat ((conv => whnf); first | refine brT ?_ | refine brF ?_)); conv => whnf)
        subst hK
        refine round_end (k + 1) hlt (by omega) ⟨?_, ⟨rfl, rfl, rfl, trivial⟩, rfl, rfl⟩
        ((repeat ((conv => whnf); first | refine ⟨e, ?_⟩ | refine ⟨rfl, ?_⟩)); trivial)
  have h4 : k = ps.length := by rw [ltI_f] at g1; simp at g1; omega
  subst h4
  subst hK
  rw [rowE_all ps us]
  ((repeat ((conv => whnf); first | refine brT ?_ | refine brF ?_)); conv => whnf)
  intro hum
  have hu' : us.length ≤ Go.maxLen := by simpa using hum
  ((repeat ((conv => whnf); first | refine brT ?_ | refine brF ?_)); conv => whnf)
  refine loop_rule (α := Nat) (fun k => [(72, .int .i64 (k : Int))]) (fun k => [.box (famLV ps us), .box (clsLV w c), .arr 4 1 ((mkB ps.length (errF ps us w c g k)).map bLV)]) (fun k => us.length - k) (fun k => k ≤ us.length) 0 (Nat.zero_le _) ?_ ?_
  · refine ⟨?_, ⟨rfl, rfl, rfl, trivial⟩, rfl, rfl⟩
    ((repeat ((conv => whnf); refine ⟨rfl, ?_⟩)); trivial)
  intro k hk
  generalize hK : kk _ = KK
  have hml : ps.length = ((mkB ps.length (errF ps us w c g k)).map bLV).length := by rw [List.length_map, mkB_len]
  ((repeat ((conv => whnf); first | refine brT ?_ | refine brF ?_)); conv => whnf)
  (refine ⟨fun g2 => ?_, fun g2 => ?_⟩ <;> rw [g2])
  · have hlt : k < us.length := by rw [ltI_t] at g2; simp at g2; omega
    have e := step_i hlt hu'
    obtain ⟨⟨m0, ml⟩, ⟨w0, wl⟩⟩ := uni_in hf hg us[k] (List.getElem_mem hlt)
    obtain ⟨y0, y1⟩ := hgi us[k].husband.toNat ml
    ((repeat ((conv => whnf); first | refine brT ?_ | refine brF ?_)); conv => whnf)
    refine ⟨k, us[k].lv, rfl, by simp [hlt], rfl, ?_⟩
    ((repeat ((conv => whnf); first | refine brT ?_ | refine brF ?_)); conv => whnf)
    refine ⟨true, by kernel_rfl, ?_⟩
    ((repeat ((conv => whnf); first | refine brT ?_ | refine brF ?_)); conv => whnf)
    refine ⟨us[k].wife.toNat, intLV (g.getD us[k].wife.toNat 0), by omega, ints_at w0 wl, rfl, ?_⟩
    ((repeat ((conv => whnf); first | refine brT ?_ | refine brF ?_)); conv => whnf)
    refine ⟨us[k].husband.toNat, intLV (g.getD us[k].husband.toNat 0), by omega, ints_at m0 ml, rfl, ?_⟩
    ((repeat ((conv => whnf); first | refine brT ?_ | refine brF ?_)); conv => whnf)
    refine ⟨(g.getD us[k].husband.toNat 0).toNat, intLV (w.getD (g.getD us[k].husband.toNat 0).toNat 0), by omega, ints_at y0 (by omega), rfl, ?_⟩
    ((repeat ((conv => whnf); first | refine brT ?_ | refine brF ?_)); conv => whnf)
    cases h2 : notB (eqI (g.getD us[k].wife.toNat 0) (w.getD (g.getD us[k].husband.toNat 0).toNat 0))
    · have h2' : badB g (bdU w us[k]) = false := h2
      have hE : mkB ps.length (errF ps us w c g k) = mkB ps.length (errF ps us w c g (k + 1)) := mkB_ext fun j _ => by
        unfold errF; rw [wedBad_succ hlt, h2']; simp
      ((repeat ((conv => whnf); first | refine brT ?_ | refine brF ?_)); conv => whnf)
      subst hK
      refine round_end (k + 1) hlt (by omega) ⟨?_, ⟨rfl, rfl, congrArg (fun l : List Bool => Blk.arr 4 1 (l.map bLV)) hE, trivial⟩, rfl, rfl⟩
      ((repeat ((conv => whnf); first | refine ⟨e, ?_⟩ | refine ⟨rfl, ?_⟩)); trivial)
    · have h2' : badB g (bdU w us[k]) = true := h2
      have wn : us[k].wife.toNat < ps.length := by omega
      have hE := mkB_set (n := ps.length) (f := errF ps us w c g k) (f' := errF ps us w c g (k + 1)) wn (fun j hj => by
        unfold errF; rw [wedBad_succ hlt, h2', Bool.and_true]
        by_cases hj : j = us[k].wife.toNat
        · subst hj; simp
        · rw [if_neg hj, show decide (us[k].wife.toNat = j) = false by simp; exact fun h => hj h.symm, Bool.or_false])
      have hgt := mkB_get (f := errF ps us w c g k) wn
      ((repeat ((conv => whnf); first | refine brT ?_ | refine brF ?_)); conv => whnf)
      refine ⟨hml, rfl, us[k].wife.toNat, by omega, by rw [← hml]; exact wn, ?_⟩
      ((repeat ((conv => whnf); first | refine brT ?_ | refine brF ?_)); conv => whnf)
      refine ⟨hml, us[k].wife.toNat, [], bLV (errF ps us w c g k us[k].wife.toNat), rfl, by simp only [getP]; rw [hgt], rfl, rfl, rfl, (mkB ps.length (errF ps us w c g (k + 1))).map bLV, by rw [hgt]; exact hE, ?_⟩
      ((repeat ((conv => whnf); first | refine brT ?_ | refine brF ?_)); conv => whnf)
      subst hK
      refine round_end (k + 1) hlt (by omega) ⟨?_, ⟨rfl, rfl, rfl, trivial⟩, rfl, rfl⟩
      ((repeat ((conv => whnf); first | refine ⟨e, ?_⟩ | refine ⟨rfl, ?_⟩)); trivial)
  have h5 : k = us.length := by rw [ltI_f] at g2; simp at g2; omega
  subst h5
  subst hK
  generalize hM : mkB ps.length (errF ps us w c g us.length) = M at hml
  have hMl : M.length = ps.length := by rw [← hM]; exact mkB_len _ _
  ((repeat ((conv => whnf); first | refine brT ?_ | refine brF ?_)); conv => whnf)
  refine ⟨[], _, _, _, _, l3Listed_h M (by omega), rfl, ?_⟩
  ((repeat ((conv => whnf); first | refine brT ?_ | refine brF ?_)); conv => whnf)
  refine ⟨hml, ?_⟩
  ((repeat ((conv => whnf); first | refine brT ?_ | refine brF ?_)); conv => whnf)
  refine ⟨rfl, rfl, ⟨rfl, flats_ints _, trivial⟩, ?_⟩
  ((repeat ((conv => whnf); first | refine brT ?_ | refine brF ?_)); conv => whnf)
  exact ⟨[.hs 0 ((listedTo M M.length).map intLV).length, .bool true], rfl, rfl, .inr ⟨[.old 3], ⟨rfl, rfl, rfl, rfl, trivial⟩, ⟨rfl, rfl, trivial⟩, rfl⟩⟩
end Go.Proofs.Ytdhmnojnkgmmnaa


namespace Go.Proofs.Ytdhmnojnkgmmnaa
open Go.Lg
set_option maxHeartbeats 1600000
set_option maxRecDepth 10000
set_option linter.unusedVariables false
set_option linter.unusedSimpArgs false

/-! ### Rows of texts -/
end Go.Proofs.Ytdhmnojnkgmmnaa

namespace Go.Proofs.Ytdhmnojnkgmmnaa
open Go.Lg
set_option maxHeartbeats 3200000
set_option maxRecDepth 10000
set_option linter.unusedVariables false
set_option linter.unusedSimpArgs false

end Go.Proofs.Ytdhmnojnkgmmnaa


namespace Go.Proofs.Ytdhmnojnkgmmnaa
open Go.Lg
set_option maxHeartbeats 3200000
set_option maxRecDepth 10000
set_option linter.unusedVariables false
set_option linter.unusedSimpArgs false

end Go.Proofs.Ytdhmnojnkgmmnaa


namespace Go.Proofs.Ytdhmnojnkgmmnaa
open Go.Lg
set_option maxHeartbeats 3200000
set_option maxRecDepth 10000
set_option linter.unusedVariables false
set_option linter.unusedSimpArgs false

end Go.Proofs.Ytdhmnojnkgmmnaa

namespace Go.Proofs.Ytdhmnojnkgmmnaa
open Go.Lg
set_option maxHeartbeats 3200000
set_option maxRecDepth 10000
set_option linter.unusedVariables false
set_option linter.unusedSimpArgs false

end Go.Proofs.Ytdhmnojnkgmmnaa

namespace Go.Proofs.Ytdhmnojnkgmmnaa
open Go.Lg
set_option maxHeartbeats 6400000
set_option maxRecDepth 10000
set_option linter.unusedVariables false
set_option linter.unusedSimpArgs false

theorem szFam_p {ps : List Per} {us : List Uni} (hf : FamOK ps us) (hk : 0 ≤ szFam 1048576 ps us) : ps.length ≤ 1048576 := by
  unfold szFam at hk
  split at hk
  · omega
  · rename_i hh
    rw [ltI_f] at hh
    have := (szPers_ok (by omega) (by omega) hf.p hf.n hh).1
    omega
theorem szFam_u {ps : List Per} {us : List Uni} (hf : FamOK ps us) (hk : 0 ≤ szFam 1048576 ps us) : us.length ≤ 1048576 := by
  unfold szFam at hk
  split at hk
  · omega
  · rename_i hh
    rw [ltI_f] at hh
    have h1 := szPers_ok (by omega) (by omega) hf.p hf.n hh
    split at hk
    · omega
    · rename_i h3
      rw [ltI_f] at h3
      have := (szUnis_ok hh (by omega) hf.u h3).1
      omega
end Go.Proofs.Ytdhmnojnkgmmnaa

namespace Go.Proofs.Ytdhmnojnkgmmnaa
open Go.Lg Go.Pm
set_option maxHeartbeats 6400000
set_option maxRecDepth 10000
set_option linter.unusedVariables false
set_option linter.unusedSimpArgs false

end Go.Proofs.Ytdhmnojnkgmmnaa


namespace Go.Proofs.Ytdhmnojnkgmmnaa
open Go.Lg Go.Pm
set_option maxHeartbeats 6400000
set_option maxRecDepth 10000
set_option linter.unusedVariables false
set_option linter.unusedSimpArgs false

end Go.Proofs.Ytdhmnojnkgmmnaa


namespace Go.Proofs.Ytdhmnojnkgmmnaa
open Go.Lg Go.Pm
set_option maxHeartbeats 6400000
set_option maxRecDepth 10000
set_option linter.unusedVariables false
set_option linter.unusedSimpArgs false

end Go.Proofs.Ytdhmnojnkgmmnaa

namespace Go.Proofs.Ytdhmnojnkgmmnaa
open Go.Lg Go.Pm
set_option maxHeartbeats 6400000
set_option maxRecDepth 10000
set_option linter.unusedVariables false
set_option linter.unusedSimpArgs false

end Go.Proofs.Ytdhmnojnkgmmnaa

namespace Go.Proofs.Ytdhmnojnkgmmnaa
open Go.Lg Go.Pm
set_option maxHeartbeats 6400000
set_option maxRecDepth 10000
set_option linter.unusedVariables false
set_option linter.unusedSimpArgs false

/-! ### Products -/
def smallI (m : Nat) (a : List Int) : Prop := ∀ x ∈ a, 0 ≤ x ∧ x < m
theorem smallI.at {m : Nat} {a : List Int} (h : smallI m a) {i : Nat} (hi : i < a.length) : 0 ≤ a.getD i 0 ∧ a.getD i 0 < m := by rw [getD_lt hi]; exact h _ (List.getElem_mem hi)
end Go.Proofs.Ytdhmnojnkgmmnaa

namespace Go.Proofs.Ytdhmnojnkgmmnaa
open Go.Lg Go.Pm
set_option maxHeartbeats 6400000
set_option maxRecDepth 10000
set_option linter.unusedVariables false
set_option linter.unusedSimpArgs false

end Go.Proofs.Ytdhmnojnkgmmnaa

namespace Go.Proofs.Ytdhmnojnkgmmnaa
open Go.Lg Go.Pm
set_option maxHeartbeats 6400000
set_option maxRecDepth 10000
set_option linter.unusedVariables false
set_option linter.unusedSimpArgs false

end Go.Proofs.Ytdhmnojnkgmmnaa

namespace Go.Proofs.Ytdhmnojnkgmmnaa
open Go.Lg Go.Pm
set_option maxHeartbeats 6400000
set_option maxRecDepth 10000
set_option linter.unusedVariables false
set_option linter.unusedSimpArgs false

theorem intsT_f {f : FuncId} {args : List LV} {xs : List Int} {b : Bool} (h : HSpec env.P f args [] (.tup [.hs 0 (xs.map intLV).length, .bool b]) [.arr 3 1 (xs.map intLV)]) : FSpec env.P f args (.tup [rowOw xs, .bool b]) :=
  FSpec_of_HSpecT h (by unfold rowOw; simp [exW, exsW])
theorem flat_intsT (xs : List Int) (b : Bool) : flatT (.tup [rowOw xs, .bool b]) = true := by simp [flatT, flatB, rowOw, flatsB, flats_ints]
theorem errL_len (ps : List Per) (us : List Uni) (w c g : List Int) : (errL ps us w c g).length ≤ 40 := by
  unfold errL
  split
  · exact listTo_len _ _
  · simp
theorem law_classErrors (ps : List Per) (us : List Uni) (w c g : List Int) (hf : FamOK ps us) (hc : w.length ≤ Go.maxLen ∧ c.length ≤ Go.maxLen) (hg : g.length ≤ Go.maxLen) : FSpec env.P 6 [famLV ps us, clsLV w c, rowSl g] (.bool true) := by
  refine FSpec_of_code (E := env.x [29, 40, 35, 41, 43, 44, 45] 0) env_ok.x (fn := Try.f6) Try.func6 rfl Try.call6 _ _ ?_
  have hG : ((g.map intLV).length : Int) = (g.length : Int) := by simp
  ((repeat ((conv => whnf); first | refine brT ?_ | refine brF ?_)); conv => whnf)
  intro _
  ((repeat ((conv => whnf); first | refine brT ?_ | refine brF ?_)); conv => whnf)
  rw [hG]
  (refine ⟨fun h0 => ?_, fun h0 => ?_⟩ <;> rw [h0])
  · ((repeat ((conv => whnf); first | refine brT ?_ | refine brF ?_)); conv => whnf); exact fin rfl
  rw [ltI_f] at h0
  ((repeat ((conv => whnf); first | refine brT ?_ | refine brF ?_)); conv => whnf)
  refine ⟨_, szFamily_spec ps us _, ?_⟩
  ((repeat ((conv => whnf); first | refine brT ?_ | refine brF ?_)); conv => whnf)
  (refine ⟨fun h => ?_, fun h => ?_⟩ <;> rw [h])
  · ((repeat ((conv => whnf); first | refine brT ?_ | refine brF ?_)); conv => whnf); exact fin rfl
  rw [ltI_f] at h
  obtain ⟨p1, u1, s1⟩ := szFam_ok (by omega) (by omega) hf h
  have hp : ps.length ≤ 1048576 := szFam_p hf h
  have hu : us.length ≤ 1048576 := szFam_u hf h
  ((repeat ((conv => whnf); first | refine brT ?_ | refine brF ?_)); conv => whnf)
  refine ⟨_, szClasses_spec w c _, ?_⟩
  ((repeat ((conv => whnf); first | refine brT ?_ | refine brF ?_)); conv => whnf)
  (refine ⟨fun h2 => ?_, fun h2 => ?_⟩ <;> rw [h2])
  · ((repeat ((conv => whnf); first | refine brT ?_ | refine brF ?_)); conv => whnf); exact fin rfl
  rw [ltI_f] at h2
  obtain ⟨es, hs⟩ := szC_ok (l := szFam 1048576 ps us) h (by omega) hc.1 hc.2 h2
  have hI := errors_impl ps us w c g (by omega) (by omega)
  have hS := intsT_f (errors_spec ps us w c g (by omega) (by omega))
  have hF := intsT_f hI
  have hl := errL_len ps us w c g
  unfold errHS at hI
  generalize errL ps us w c g = R at hI hS hF hl
  generalize givB ps us w c g 0 = b at hI hS hF
  ((repeat ((conv => whnf); first | refine brT ?_ | refine brF ?_)); conv => whnf)
  refine ⟨true, by kernel_rfl, ?_⟩
  ((repeat ((conv => whnf); first | refine brT ?_ | refine brF ?_)); conv => whnf)
  refine ⟨_, toFamily_spec ps us p1 u1, ?_⟩
  ((repeat ((conv => whnf); first | refine brT ?_ | refine brF ?_)); conv => whnf)
  refine ⟨_, toClasses_f w c (by omega) (by omega), ?_⟩
  ((repeat ((conv => whnf); first | refine brT ?_ | refine brF ?_)); conv => whnf)
  refine ⟨_, toIntS_f g (by omega), ?_⟩
  ((repeat ((conv => whnf); first | refine brT ?_ | refine brF ?_)); conv => whnf)
  refine ⟨_, hS, ?_⟩
  rw [flat_intsT]
  ((repeat ((conv => whnf); first | refine brT ?_ | refine brF ?_)); conv => whnf)
  refine ⟨[], _, _, _, _, toFamily_hm ps us p1 u1, rfl, rfl, rfl, trivial, ?_⟩
  ((repeat ((conv => whnf); first | refine brT ?_ | refine brF ?_)); conv => whnf)
  refine ⟨[], _, _, _, _, toClasses_h w c (by omega) (by omega), rfl, rfl, rfl, trivial, ?_⟩
  ((repeat ((conv => whnf); first | refine brT ?_ | refine brF ?_)); conv => whnf)
  refine ⟨[], _, _, _, _, toIntS_h g (by omega), rfl, rfl, rfl, trivial, ?_⟩
  ((repeat ((conv => whnf); first | refine brT ?_ | refine brF ?_)); conv => whnf)
  refine ⟨[], _, _, _, _, hI, rfl, ?_⟩
  ((repeat ((conv => whnf); first | refine brT ?_ | refine brF ?_)); conv => whnf)
  refine ⟨rfl, ?_⟩
  ((repeat ((conv => whnf); first | refine brT ?_ | refine brF ?_)); conv => whnf)
  refine ⟨rfl, ?_⟩
  ((repeat ((conv => whnf); first | refine brT ?_ | refine brF ?_)); conv => whnf)
  refine ⟨rfl, ?_⟩
  ((repeat ((conv => whnf); first | refine brT ?_ | refine brF ?_)); conv => whnf)
  refine ⟨rfl, ?_⟩
  ((repeat ((conv => whnf); first | refine brT ?_ | refine brF ?_)); conv => whnf)
  refine ⟨rfl, ?_⟩
  ((repeat ((conv => whnf); first | refine brT ?_ | refine brF ?_)); conv => whnf)
  refine ⟨rfl, rfl, ⟨rfl, flats_ints _, trivial⟩, ?_⟩
  ((repeat ((conv => whnf); first | refine brT ?_ | refine brF ?_)); conv => whnf)
  refine ⟨rfl, ?_⟩
  ((repeat ((conv => whnf); first | refine brT ?_ | refine brF ?_)); conv => whnf)
  refine ⟨_, eqIntS_spec R R, ?_⟩
  rw [eqIntS_refl]
  ((repeat ((conv => whnf); first | refine brT ?_ | refine brF ?_)); conv => whnf)
  rw [show notB true = false by simp [notB]]
  ((repeat ((conv => whnf); first | refine brT ?_ | refine brF ?_)); conv => whnf)
  rw [eqB_refl, show notB true = false by simp [notB]]
  ((repeat ((conv => whnf); first | refine brT ?_ | refine brF ?_)); conv => whnf)
  refine ⟨true, by kernel_rfl, ?_⟩
  ((repeat ((conv => whnf); first | refine brT ?_ | refine brF ?_)); conv => whnf)
  refine ⟨_, toFamily_spec ps us p1 u1, ?_⟩
  ((repeat ((conv => whnf); first | refine brT ?_ | refine brF ?_)); conv => whnf)
  refine ⟨rfl, ?_⟩
  ((repeat ((conv => whnf); first | refine brT ?_ | refine brF ?_)); conv => whnf)
  refine ⟨rfl, ?_⟩
  ((repeat ((conv => whnf); first | refine brT ?_ | refine brF ?_)); conv => whnf)
  refine ⟨_, eqFamily_spec ps ps us us, ?_⟩
  rw [eqFam_refl]
  ((repeat ((conv => whnf); first | refine brT ?_ | refine brF ?_)); conv => whnf)
  rw [show notB true = false by simp [notB]]
  ((repeat ((conv => whnf); first | refine brT ?_ | refine brF ?_)); conv => whnf)
  refine ⟨true, by kernel_rfl, ?_⟩
  ((repeat ((conv => whnf); first | refine brT ?_ | refine brF ?_)); conv => whnf)
  refine ⟨_, toClasses_f w c (by omega) (by omega), ?_⟩
  ((repeat ((conv => whnf); first | refine brT ?_ | refine brF ?_)); conv => whnf)
  refine ⟨rfl, ?_⟩
  ((repeat ((conv => whnf); first | refine brT ?_ | refine brF ?_)); conv => whnf)
  refine ⟨rfl, ?_⟩
  ((repeat ((conv => whnf); first | refine brT ?_ | refine brF ?_)); conv => whnf)
  refine ⟨_, eqClasses_spec w c w c, ?_⟩
  rw [eqCls_refl]
  ((repeat ((conv => whnf); first | refine brT ?_ | refine brF ?_)); conv => whnf)
  rw [show notB true = false by simp [notB]]
  ((repeat ((conv => whnf); first | refine brT ?_ | refine brF ?_)); conv => whnf)
  refine ⟨[], _, _, _, _, toIntS_h g (by omega), rfl, rfl, rfl, trivial, ?_⟩
  ((repeat ((conv => whnf); first | refine brT ?_ | refine brF ?_)); conv => whnf)
  refine ⟨rfl, ?_⟩
  ((repeat ((conv => whnf); first | refine brT ?_ | refine brF ?_)); conv => whnf)
  refine ⟨rfl, ?_⟩
  ((repeat ((conv => whnf); first | refine brT ?_ | refine brF ?_)); conv => whnf)
  refine ⟨_, eqIntS_spec g g, ?_⟩
  rw [eqIntS_refl]
  ((repeat ((conv => whnf); first | refine brT ?_ | refine brF ?_)); conv => whnf)
  rw [show notB true = false by simp [notB]]
  ((repeat ((conv => whnf); first | refine brT ?_ | refine brF ?_)); conv => whnf)
  refine ⟨[2, 3], _, _, _, _, markFamily_hm ps us 1 (by omega), rfl, rfl, rfl, trivial, ?_⟩
  ((repeat ((conv => whnf); first | refine brT ?_ | refine brF ?_)); conv => whnf)
  refine ⟨[5, 6], _, _, _, _, markClasses_spec w c _ _ rfl rfl ((1 + 6 * ps.length + 4 * us.length : Nat) : Int) (by omega) (by omega), rfl, rfl, rfl, trivial, ?_⟩
  ((repeat ((conv => whnf); first | refine brT ?_ | refine brF ?_)); conv => whnf)
  refine ⟨[8], _, _, _, _, markIntS_spec g _ rfl (((1 + 6 * ps.length + 4 * us.length : Nat) : Int) + w.length + c.length) (by omega) (by omega), rfl, rfl, rfl, trivial, ?_⟩
  ((repeat ((conv => whnf); first | refine brT ?_ | refine brF ?_)); conv => whnf)
  rw [show ltI (((1 + 6 * ps.length + 4 * us.length : Nat) : Int) + (w.length : Int) + (c.length : Int) + (g.length : Int)) 0 = false by rw [ltI_f]; omega]
  ((repeat ((conv => whnf); first | refine brT ?_ | refine brF ?_)); conv => whnf)
  refine ⟨rfl, ?_⟩
  ((repeat ((conv => whnf); first | refine brT ?_ | refine brF ?_)); conv => whnf)
  refine ⟨_, eqIntS_spec R R, ?_⟩
  rw [eqIntS_refl]
  ((repeat ((conv => whnf); first | refine brT ?_ | refine brF ?_)); conv => whnf)
  rw [show notB true = false by simp [notB]]
  ((repeat ((conv => whnf); first | refine brT ?_ | refine brF ?_)); conv => whnf)
  rw [eqB_refl, show notB true = false by simp [notB]]
  ((repeat ((conv => whnf); first | refine brT ?_ | refine brF ?_)); conv => whnf)
  refine ⟨[9], _, _, _, _, markIntS_spec R _ rfl 1 (by omega) (by omega), rfl, rfl, rfl, trivial, ?_⟩
  ((repeat ((conv => whnf); first | refine brT ?_ | refine brF ?_)); conv => whnf)
  refine ⟨by simp [marks_len], ?_⟩
  ((repeat ((conv => whnf); first | refine brT ?_ | refine brF ?_)); conv => whnf)
  refine ⟨_, heldIntS_spec 1 R.length (by omega) (by omega), ?_⟩
  ((repeat ((conv => whnf); first | refine brT ?_ | refine brF ?_)); conv => whnf)
  rw [show ltI (1 + (R.length : Int)) 0 = false by rw [ltI_f]; omega]
  ((repeat ((conv => whnf); first | refine brT ?_ | refine brF ?_)); conv => whnf)
  rw [show notB (eqI (1 + (R.length : Int)) (1 + (R.length : Int))) = false by simp [notB, eqI_refl]]
  ((repeat ((conv => whnf); first | refine brT ?_ | refine brF ?_)); conv => whnf)
  refine ⟨true, by kernel_rfl, ?_⟩
  ((repeat ((conv => whnf); first | refine brT ?_ | refine brF ?_)); conv => whnf)
  refine ⟨_, toFamily_spec ps us p1 u1, ?_⟩
  ((repeat ((conv => whnf); first | refine brT ?_ | refine brF ?_)); conv => whnf)
  refine ⟨_, toClasses_f w c (by omega) (by omega), ?_⟩
  ((repeat ((conv => whnf); first | refine brT ?_ | refine brF ?_)); conv => whnf)
  refine ⟨_, toIntS_f g (by omega), ?_⟩
  ((repeat ((conv => whnf); first | refine brT ?_ | refine brF ?_)); conv => whnf)
  refine ⟨_, hF, ?_⟩
  rw [flat_intsT]
  ((repeat ((conv => whnf); first | refine brT ?_ | refine brF ?_)); conv => whnf)
  refine ⟨_, eqIntS_spec R R, ?_⟩
  rw [eqIntS_refl]
  ((repeat ((conv => whnf); first | refine brT ?_ | refine brF ?_)); conv => whnf)
  rw [show notB true = false by simp [notB]]
  ((repeat ((conv => whnf); first | refine brT ?_ | refine brF ?_)); conv => whnf)
  rw [eqB_refl, show notB true = false by simp [notB]]
  ((repeat ((conv => whnf); first | refine brT ?_ | refine brF ?_)); conv => whnf)
  refine ⟨by simp [marks_len], ?_⟩
  ((repeat ((conv => whnf); first | refine brT ?_ | refine brF ?_)); conv => whnf)
  refine ⟨_, heldIntS_spec 1 R.length (by omega) (by omega), ?_⟩
  ((repeat ((conv => whnf); first | refine brT ?_ | refine brF ?_)); conv => whnf)
  rw [show ltI (1 + (R.length : Int)) 0 = false by rw [ltI_f]; omega]
  ((repeat ((conv => whnf); first | refine brT ?_ | refine brF ?_)); conv => whnf)
  rw [show notB (eqI (1 + (R.length : Int)) (1 + (R.length : Int))) = false by simp [notB, eqI_refl]]
  ((repeat ((conv => whnf); first | refine brT ?_ | refine brF ?_)); conv => whnf)
  exact fin rfl
end Go.Proofs.Ytdhmnojnkgmmnaa


namespace Go.Proofs.Ytdhmnojnkgmmnaa
open Go.Lg Go.RowKit Go.ChangeShapes Go.WideShapes Go.Deep Go.Joins
set_option linter.unusedVariables false
set_option linter.unusedSimpArgs false
set_option maxRecDepth 100000

theorem list_of {α : Type} {lv : α → LV} {Q : α → Prop} : ∀ (xs : List LV), (∀ x ∈ xs, ∃ p, x = lv p ∧ Q p) → ∃ ps : List α, xs = ps.map lv ∧ ∀ p ∈ ps, Q p
  | [], _ => ⟨[], rfl, by simp⟩
  | x :: xs, h => by
    obtain ⟨p, rfl, hp⟩ := h x (by simp)
    obtain ⟨ps, rfl, hps⟩ := list_of xs fun y hy => h y (by simp [hy])
    exact ⟨p :: ps, rfl, List.forall_mem_cons.2 ⟨hp, hps⟩⟩

section
variable {H : Type} {enc : TypeId × Value → H} {w : World}
end
end Go.Proofs.Ytdhmnojnkgmmnaa


namespace Go.Proofs.Ytdhmnojnkgmmnaa
open Go.Lg
set_option maxRecDepth 10000
set_option linter.unusedVariables false
set_option linter.unusedSimpArgs false

/-! ### A family, out of an argument's shape -/
abbrev shPer : Sh := .st [.str, .int .i64, .int .i64, .int .i64, .int .i64, .int .i64]
abbrev shUni : Sh := .st [.int .i64, .int .i64, .int .i64, .int .i64]
abbrev shFam : Sh := .st [.sl (.st [.str, .int .i64, .int .i64, .int .i64, .int .i64, .int .i64]), .sl (.st [.int .i64, .int .i64, .int .i64, .int .i64])]
theorem per_of_sh {x : LV} (h : hasSh shPer x) : ∃ p : Per, x = p.lv ∧ p.name.size ≤ maxLen := by
  simp only [hasSh] at h
  obtain ⟨xs, rfl, h⟩ := h
  match xs, h with
  | [a, b, c, d, e, f], h =>
    simp only [hasShs, hasSh] at h
    obtain ⟨⟨s, rfl, hs⟩, ⟨n1, rfl⟩, ⟨n2, rfl⟩, ⟨n3, rfl⟩, ⟨n4, rfl⟩, ⟨n5, rfl⟩, _⟩ := h
    exact ⟨⟨s, n1, n2, n3, n4, n5⟩, rfl, hs⟩
  | [], h => simp [hasShs] at h
  | [_], h => simp [hasShs] at h
  | [_, _], h => simp [hasShs] at h
  | [_, _, _], h => simp [hasShs] at h
  | [_, _, _, _], h => simp [hasShs] at h
  | [_, _, _, _, _], h => simp [hasShs] at h
  | _ :: _ :: _ :: _ :: _ :: _ :: _ :: _, h => simp [hasShs] at h
theorem uni_of_sh {x : LV} (h : hasSh shUni x) : ∃ u : Uni, x = u.lv ∧ True := by
  simp only [hasSh] at h
  obtain ⟨xs, rfl, h⟩ := h
  match xs, h with
  | [a, b, c, d], h =>
    simp only [hasShs, hasSh] at h
    obtain ⟨⟨n1, rfl⟩, ⟨n2, rfl⟩, ⟨n3, rfl⟩, ⟨n4, rfl⟩, _⟩ := h
    exact ⟨⟨n1, n2, n3, n4⟩, rfl, trivial⟩
  | [], h => simp [hasShs] at h
  | [_], h => simp [hasShs] at h
  | [_, _], h => simp [hasShs] at h
  | [_, _, _], h => simp [hasShs] at h
  | _ :: _ :: _ :: _ :: _ :: _, h => simp [hasShs] at h
theorem fam_of_sh {x : LV} (h : hasSh shFam x) : ∃ (ps : List Per) (us : List Uni), x = famLV ps us ∧ FamOK ps us := by
  simp only [hasSh] at h
  obtain ⟨xs, rfl, h⟩ := h
  match xs, h with
  | [a, b], h =>
    simp only [hasShs, hasSh] at h
    obtain ⟨⟨ys, rfl, hl, hy⟩, ⟨zs, rfl, hm, hz⟩, _⟩ := h
    obtain ⟨ps, rfl, hps⟩ := list_of (lv := Per.lv) (Q := fun p => p.name.size ≤ maxLen) ys fun y hy' => per_of_sh (by simp only [hasSh]; exact hy y hy')
    obtain ⟨us, rfl, _⟩ := list_of (lv := Uni.lv) (Q := fun _ => True) zs fun y hy' => uni_of_sh (by simp only [hasSh]; exact hz y hy')
    exact ⟨ps, us, rfl, ⟨by simpa using hl, by simpa using hm, hps⟩⟩
  | [], h => simp [hasShs] at h
  | [_], h => simp [hasShs] at h
  | _ :: _ :: _ :: _, h => simp [hasShs] at h
end Go.Proofs.Ytdhmnojnkgmmnaa

