/- Contracts of functions of the program and of its model, told over readings. -/
import Derived.Test.YtdhmnojnkgmmnaaAWGE
import Derived.Test.YtdhmnojnkgmmnaaAWGD
import Derived.Test.YtdhmnojnkgmmnaaAWGC
import Derived.Test.YtdhmnojnkgmmnaaAWGA
namespace Go.Proofs.Ytdhmnojnkgmmnaa
open Go.Lg Go.Pm
set_option maxHeartbeats 3200000
set_option maxRecDepth 10000
set_option linter.unusedVariables false
set_option linter.unusedSimpArgs false

/-! ### Founders -/
def parS (p : Per) (sx : Int) : Int := match eqI sx 1 with | true => p.father | false => p.mother
def foNx (ds : List Int) (k : Nat) (x : Int) : Int := match eqI x (-1) with | true => (k : Int) | false => ds.getD x.toNat 0
def foTo (ps : List Per) (sx : Int) : Nat → List Int
  | 0 => []
  | k + 1 => foTo ps sx k ++ [match ps[k]? with | some p => foNx (foTo ps sx k) k (parS p sx) | none => 0]
theorem foTo_len (ps : List Per) (sx : Int) : ∀ k, (foTo ps sx k).length = k
  | 0 => rfl
  | k + 1 => by simp [foTo, foTo_len ps sx k]
theorem foTo_succ {ps : List Per} {sx : Int} {k : Nat} (h : k < ps.length) : foTo ps sx (k + 1) = foTo ps sx k ++ [foNx (foTo ps sx k) k (parS ps[k] sx)] := by
  simp [foTo, h]
theorem foTo_get (ps : List Per) (sx : Int) {i k : Nat} (h : i < k) : ∀ n, k ≤ n → (foTo ps sx n).getD i 0 = (foTo ps sx k).getD i 0 := by
  intro n hn
  induction n with
  | zero => omega
  | succ n ih =>
    rcases Nat.lt_or_ge n k with h1 | h1
    · have : k = n + 1 := by omega
      subst this; rfl
    · have e := ih h1
      rw [← e]
      simp only [foTo, List.getD_eq_getElem?_getD]
      rw [List.getElem?_append_left (by rw [foTo_len]; omega)]
/-- Who founded the line of a person. -/
def foAt (ps : List Per) (sx : Int) (i : Nat) : Int := (foTo ps sx ps.length).getD i 0
theorem parS_in {ps : List Per} (hp : parsIn ps) {sx : Int} {i : Nat} (h : i < ps.length) : parIn (parS ps[i] sx) i := by
  unfold parS; split
  · exact (hp i h).1
  · exact (hp i h).2
theorem foAt_rec {ps : List Per} (hp : parsIn ps) {sx : Int} {i : Nat} (h : i < ps.length) : foAt ps sx i = (match eqI (parS ps[i] sx) (-1) with | true => (i : Int) | false => foAt ps sx (parS ps[i] sx).toNat) := by
  have h0 := foTo_get ps sx (i := i) (k := i + 1) (by omega) ps.length (by omega)
  unfold foAt
  rw [h0, foTo_succ h, List.getD_eq_getElem?_getD, List.getElem?_append_right (by rw [foTo_len]; exact Nat.le_refl _), foTo_len, Nat.sub_self]
  show foNx _ _ _ = _
  unfold foNx
  cases he : eqI (parS ps[i] sx) (-1) with
  | true => rfl
  | false =>
    have hx := parS_in hp (sx := sx) h
    rw [eqI_f] at he
    rcases hx with hx | ⟨hx, hy⟩
    · exact absurd hx he
    · exact (foTo_get ps sx (i := (parS ps[i] sx).toNat) (k := i) (by omega) ps.length (by omega)).symm
theorem foTo_range {ps : List Per} (hp : parsIn ps) (sx : Int) : ∀ k, k ≤ ps.length → ∀ i, i < k → 0 ≤ (foTo ps sx k).getD i 0 ∧ (foTo ps sx k).getD i 0 ≤ i := by
  intro k
  induction k with
  | zero => intro _ i h; omega
  | succ k ih =>
    intro hk i hi
    rcases Nat.lt_or_ge i k with h1 | h1
    · rw [foTo_get ps sx h1 (k + 1) (by omega)]; exact ih (by omega) i h1
    · have : i = k := by omega
      subst this
      rw [foTo_succ (by omega), List.getD_eq_getElem?_getD, List.getElem?_append_right (by rw [foTo_len]; exact Nat.le_refl _), foTo_len, Nat.sub_self]
      show 0 ≤ foNx _ _ _ ∧ foNx _ _ _ ≤ _
      have hx := parS_in hp (sx := sx) (i := i) (by omega)
      unfold foNx
      split
      · exact ⟨by omega, Int.le_refl _⟩
      · rename_i he
        rw [eqI_f] at he
        rcases hx with hx | ⟨hx, hy⟩
        · exact absurd hx he
        · have := ih (by omega) (parS ps[i] sx).toNat (by omega)
          exact ⟨this.1, by omega⟩
theorem foAt_range {ps : List Per} (hp : parsIn ps) (sx : Int) {i : Nat} (h : i < ps.length) : 0 ≤ foAt ps sx i ∧ foAt ps sx i ≤ i := foTo_range hp sx _ (Nat.le_refl _) i h
def fos (ps : List Per) (sx : Int) : List Int := foTo ps sx ps.length
theorem fos_len (ps : List Per) (sx : Int) : (fos ps sx).length = ps.length := foTo_len ps sx _
theorem fos_get {ps : List Per} {sx : Int} {i : Nat} (h : i < ps.length) : (fos ps sx)[i]? = some (foAt ps sx i) := by
  have hl : i < (fos ps sx).length := by rw [fos_len]; exact h
  rw [List.getElem?_eq_getElem hl]
  unfold foAt
  rw [List.getD_eq_getElem?_getD, show foTo ps sx ps.length = fos ps sx from rfl, List.getElem?_eq_getElem hl]; rfl
/-- The row of founders behind so many rounds. -/
def foRow (ps : List Per) (sx : Int) (k : Nat) : List LV := (foTo ps sx k ++ (unit ps.length).drop k).map intLV
theorem foRow_len {ps : List Per} {sx : Int} {k : Nat} (h : k ≤ ps.length) : (foRow ps sx k).length = ps.length := by
  simp [foRow, foTo_len, unit_len]; omega
theorem foRow_lt {ps : List Per} {sx : Int} {k i : Nat} (h : i < k) : (foRow ps sx k)[i]? = some (intLV ((foTo ps sx k).getD i 0)) := by
  have hl : i < (foTo ps sx k).length := by rw [foTo_len]; exact h
  unfold foRow
  rw [List.getElem?_map, List.getElem?_append_left hl, List.getD_eq_getElem?_getD, List.getElem?_eq_getElem hl]; rfl
theorem foRow_at {ps : List Per} {sx : Int} {k : Nat} (h : k < ps.length) : (foRow ps sx k)[k]? = some (intLV (k : Int)) := by
  unfold foRow
  rw [List.getElem?_map, List.getElem?_append_right (by rw [foTo_len]; exact Nat.le_refl _), foTo_len, Nat.sub_self, List.getElem?_drop, Nat.add_zero, List.getElem?_eq_getElem (by rw [unit_len]; exact h)]
  simp [unit]
theorem foRow_set {ps : List Per} {sx : Int} {k : Nat} (h : k < ps.length) {v : Int} (e : foNx (foTo ps sx k) k (parS ps[k] sx) = v) : (foRow ps sx k).set k (intLV v) = foRow ps sx (k + 1) := by
  subst e
  unfold foRow
  rw [foTo_succ h, List.drop_eq_getElem_cons (by rw [unit_len]; exact h), List.map_append, List.map_cons, List.set_append_right _ _ (by simp [foTo_len])]
  simp [foTo_len]
theorem foRow_same {ps : List Per} {sx : Int} {k : Nat} (h : k < ps.length) (e : eqI (parS ps[k] sx) (-1) = true) : foRow ps sx k = foRow ps sx (k + 1) := by
  have := foRow_set (sx := sx) h (v := (k : Int)) (by unfold foNx; rw [e])
  rw [← this]
  apply List.ext_getElem?
  intro i
  rw [List.getElem?_set]
  split
  · rename_i hi
    subst hi
    rw [if_pos (by rw [foRow_len (by omega)]; exact h), foRow_at h]
  · rfl
theorem parentOfSex_spec (p : Per) (sx : Int) : FSpec env.P 200 [p.lv, .int .i64 sx] (.int .i64 (parS p sx)) := by
  refine FSpec_of_code env_ok (fn := Try.f200) Try.func200 rfl Try.call200 _ _ ?_
  ((repeat ((conv => whnf); first | refine brT ?_ | refine brF ?_)); conv => whnf)
  (refine ⟨fun h => ?_, fun h => ?_⟩ <;> rw [h])
  · ((repeat ((conv => whnf); first | refine brT ?_ | refine brF ?_)); conv => whnf)
    refine ⟨rfl, ?_, List.nodup_nil⟩; simp [parS, h]
  · ((repeat ((conv => whnf); first | refine brT ?_ | refine brF ?_)); conv => whnf)
    refine ⟨rfl, ?_, List.nodup_nil⟩; simp [parS, h]
theorem foundersOf_h (ps : List Per) (us : List Uni) (sx : Int) (hl : ps.length ≤ 40) (hp : parsIn ps) :
    HSpec env.P 111 [famLV ps us, .int .i64 sx] [] (.hs 0 ((fos ps sx).map intLV).length) [.arr 3 1 ((fos ps sx).map intLV)] := by
  refine HSpec_of_code (E := env.x [176] 0) env_ok.x (fn := Try.f111) Try.func111 rfl Try.call111 _ _ _ _ ?_
  have hL : (ps.map Per.lv).length = ps.length := List.length_map ..
  ((repeat ((conv => whnf); first | refine brT ?_ | refine brF ?_)); conv => whnf)
  intro hn
  ((repeat ((conv => whnf); first | refine brT ?_ | refine brF ?_)); conv => whnf)
  refine ⟨[], _, _, _, _, identity_h (ps.map Per.lv).length (by omega), rfl, rfl, rfl, trivial, ?_⟩
  ((repeat ((conv => whnf); first | refine brT ?_ | refine brF ?_)); conv => whnf)
  intro hn2
  ((repeat ((conv => whnf); first | refine brT ?_ | refine brF ?_)); conv => whnf)
  refine loop_rule (α := Nat) (fun k => [(16, .int .i64 (k : Int))]) (fun k => [.box (famLV ps us), .arr 3 1 (foRow ps sx k)]) (fun k => ps.length - k) (fun k => k ≤ ps.length) 0 (Nat.zero_le _) ?_ ?_
  · refine ⟨?_, ⟨rfl, by simp [foRow, foTo, hL], trivial⟩, rfl, rfl⟩
    ((repeat ((conv => whnf); refine ⟨rfl, ?_⟩)); trivial)
  intro k hk
  have hr : ((unit (ps.map Per.lv).length).map intLV).length = (foRow ps sx k).length := by rw [foRow_len hk, List.length_map, unit_len, hL]
  ((repeat ((conv => whnf); first | refine brT ?_ | refine brF ?_)); conv => whnf)
  (refine ⟨fun h1 => ?_, fun h1 => ?_⟩ <;> rw [h1])
  · have hlt : k < ps.length := by rw [ltI_t] at h1; simp at h1; omega
    have e := step_i hlt (by unfold Go.maxLen; omega)
    have hx := parS_in hp (sx := sx) hlt
    ((repeat ((conv => whnf); first | refine brT ?_ | refine brF ?_)); conv => whnf)
    refine ⟨k, ps[k].lv, rfl, by simp [hlt], rfl, ?_⟩
    ((repeat ((conv => whnf); first | refine brT ?_ | refine brF ?_)); conv => whnf)
    refine ⟨_, parentOfSex_spec ps[k] sx, ?_⟩
    ((repeat ((conv => whnf); first | refine brT ?_ | refine brF ?_)); conv => whnf)
    (refine ⟨fun h2 => ?_, fun h2 => ?_⟩ <;> rw [h2])
    · rw [notB_t] at h2
      have h2' := eqI_f.1 h2
      obtain ⟨hx0, hx1⟩ : 0 ≤ parS ps[k] sx ∧ parS ps[k] sx < k := hx.resolve_left h2'
      have hxn : parS ps[k] sx = ((parS ps[k] sx).toNat : Int) := by omega
      have hxk : (parS ps[k] sx).toNat < k := by omega
      ((repeat ((conv => whnf); first | refine brT ?_ | refine brF ?_)); conv => whnf)
      refine ⟨hr, rfl, (parS ps[k] sx).toNat, hxn, by rw [foRow_len hk]; omega, ?_⟩
      ((repeat ((conv => whnf); first | refine brT ?_ | refine brF ?_)); conv => whnf)
      refine ⟨hr, by simp, intLV ((foTo ps sx k).getD (parS ps[k] sx).toNat 0), by simp only [getP]; rw [foRow_lt hxk], rfl, ?_⟩
      ((repeat ((conv => whnf); first | refine brT ?_ | refine brF ?_)); conv => whnf)
      refine ⟨hr, rfl, k, rfl, by rw [foRow_len hk]; omega, ?_⟩
      ((repeat ((conv => whnf); first | refine brT ?_ | refine brF ?_)); conv => whnf)
      refine ⟨hr, k, [], intLV (k : Int), rfl, by simp only [getP]; rw [foRow_at hlt], rfl, rfl, rfl, foRow ps sx (k + 1), by rw [foRow_at hlt]; exact foRow_set hlt (by unfold foNx; rw [h2]), ?_⟩
      ((repeat ((conv => whnf); first | refine brT ?_ | refine brF ?_)); conv => whnf)
      refine round_end (k + 1) hlt (by omega) ⟨?_, ⟨rfl, rfl, trivial⟩, rfl, rfl⟩
      ((repeat ((conv => whnf); first | refine ⟨e, ?_⟩ | refine ⟨rfl, ?_⟩)); trivial)
    · rw [notB_f] at h2
      ((repeat ((conv => whnf); first | refine brT ?_ | refine brF ?_)); conv => whnf)
      refine round_end (k + 1) hlt (by omega) ⟨?_, ⟨rfl, congrArg (Blk.arr 3 1) (foRow_same hlt h2), trivial⟩, rfl, rfl⟩
      ((repeat ((conv => whnf); first | refine ⟨e, ?_⟩ | refine ⟨rfl, ?_⟩)); trivial)
  · have h3 : k = ps.length := by rw [ltI_f] at h1; simp at h1; omega
    subst h3
    have e5 : foRow ps sx ps.length = (fos ps sx).map intLV := by simp [foRow, fos, unit_len]
    have e6 : ((fos ps sx).map intLV).length = ((unit (ps.map Per.lv).length).map intLV).length := by rw [hr, e5]
    ((repeat ((conv => whnf); first | refine brT ?_ | refine brF ?_)); conv => whnf)
    exact ⟨[.hs 0 ((unit (ps.map Per.lv).length).map intLV).length], by simp only [tupOf]; rw [e6], rfl, .inr ⟨[.old 1], ⟨rfl, rfl, trivial⟩, ⟨rfl, congrArg (Blk.arr 3 1) e5, trivial⟩, rfl⟩⟩
theorem foundersOf_f (ps : List Per) (us : List Uni) (sx : Int) (hl : ps.length ≤ 40) (hp : parsIn ps) : FSpec env.P 111 [famLV ps us, .int .i64 sx] (rowOw (fos ps sx)) := ints_f (foundersOf_h ps us sx hl hp)
theorem l7Founder_spec (ps : List Per) (us : List Uni) (p : Nat) (sx : Int) (hs : sx = 1 ∨ sx = 2) (hp : parsIn ps) (h : p < ps.length) :
    FSpec env.P 106 [famLV ps us, .int .i64 (p : Int), .int .i64 sx] (.int .i64 (foAt ps sx p)) := by
  refine FSpec_of_code env_ok (fn := Try.f106) Try.func106 rfl Try.call106 _ _ ?_
  ((repeat ((conv => whnf); first | refine brT ?_ | refine brF ?_)); conv => whnf)
  refine loop_rule (α := Nat) (fun k => [(1, .int .i64 (k : Int))]) (fun k => [.box (famLV ps us)]) (fun k => k) (fun k => k < ps.length ∧ foAt ps sx k = foAt ps sx p) p ⟨h, rfl⟩ ?_ ?_
  · refine ⟨?_, ⟨rfl, trivial⟩, rfl, rfl⟩
    ((repeat ((conv => whnf); refine ⟨rfl, ?_⟩)); trivial)
  rintro k ⟨hk, hf⟩
  have hx := parS_in hp (sx := sx) hk
  have hrec := foAt_rec hp (sx := sx) hk
  ((repeat ((conv => whnf); first | refine brT ?_ | refine brF ?_)); conv => whnf)
  refine ⟨k, ps[k].lv, rfl, by simp [hk], rfl, ?_⟩
  ((repeat ((conv => whnf); first | refine brT ?_ | refine brF ?_)); conv => whnf)
  (refine ⟨fun h1 => ?_, fun h1 => ?_⟩ <;> rw [h1])
  · have hsx : sx = 2 := eqI_t.1 h1
    have e1 : parS ps[k] sx = ps[k].mother := by subst hsx; unfold parS; rw [show eqI 2 1 = false by rw [eqI_f]; decide]
    rw [e1] at hx hrec
    ((repeat ((conv => whnf); first | refine brT ?_ | refine brF ?_)); conv => whnf)
    refine ⟨k, ps[k].lv, rfl, by simp [hk], rfl, ?_⟩
    ((repeat ((conv => whnf); first | refine brT ?_ | refine brF ?_)); conv => whnf)
    (refine ⟨fun h2 => ?_, fun h2 => ?_⟩ <;> rw [h2])
    · rw [ltI_t] at h2
      have : ps[k].mother = -1 := by rcases hx with hx | hx <;> omega
      ((repeat ((conv => whnf); first | refine brT ?_ | refine brF ?_)); conv => whnf)
      refine ⟨rfl, ?_, List.nodup_nil⟩
      rw [← hf, hrec, this]
      rw [show eqI (-1) (-1) = true from eqI_refl _]
    · rw [ltI_f] at h2
      have hne : eqI ps[k].mother (-1) = false := by rw [eqI_f]; omega
      have hx2 : ps[k].mother < k := by rcases hx with hx | hx <;> omega
      rw [hne] at hrec
      have e : LV.int .i64 ps[k].mother = LV.int .i64 ((ps[k].mother.toNat : Nat) : Int) := by congr 1; omega
      ((repeat ((conv => whnf); first | refine brT ?_ | refine brF ?_)); conv => whnf)
      refine round_end ps[k].mother.toNat ⟨by omega, by rw [← hf, hrec]⟩ (by omega) ⟨?_, ⟨rfl, trivial⟩, rfl, rfl⟩
      ((repeat ((conv => whnf); first | refine ⟨e, ?_⟩ | refine ⟨rfl, ?_⟩)); trivial)
  · have hsx : sx = 1 := by rw [eqI_f] at h1; omega
    have e1 : parS ps[k] sx = ps[k].father := by subst hsx; unfold parS; rw [eqI_refl]
    rw [e1] at hx hrec
    ((repeat ((conv => whnf); first | refine brT ?_ | refine brF ?_)); conv => whnf)
    (refine ⟨fun h2 => ?_, fun h2 => ?_⟩ <;> rw [h2])
    · rw [ltI_t] at h2
      have : ps[k].father = -1 := by rcases hx with hx | hx <;> omega
      ((repeat ((conv => whnf); first | refine brT ?_ | refine brF ?_)); conv => whnf)
      refine ⟨rfl, ?_, List.nodup_nil⟩
      rw [← hf, hrec, this]
      rw [show eqI (-1) (-1) = true from eqI_refl _]
    · rw [ltI_f] at h2
      have hne : eqI ps[k].father (-1) = false := by rw [eqI_f]; omega
      have hx2 : ps[k].father < k := by rcases hx with hx | hx <;> omega
      rw [hne] at hrec
      have e : LV.int .i64 ps[k].father = LV.int .i64 ((ps[k].father.toNat : Nat) : Int) := by congr 1; omega
      ((repeat ((conv => whnf); first | refine brT ?_ | refine brF ?_)); conv => whnf)
      refine round_end ps[k].father.toNat ⟨by omega, by rw [← hf, hrec]⟩ (by omega) ⟨?_, ⟨rfl, trivial⟩, rfl, rfl⟩
      ((repeat ((conv => whnf); first | refine ⟨e, ?_⟩ | refine ⟨rfl, ?_⟩)); trivial)
end Go.Proofs.Ytdhmnojnkgmmnaa

namespace Go.Proofs.Ytdhmnojnkgmmnaa
open Go.Lg Go.Pm
set_option maxHeartbeats 3200000
set_option maxRecDepth 10000
set_option linter.unusedVariables false
set_option linter.unusedSimpArgs false

def sexB (sx : Int) : Bool := eqI sx 1 || eqI sx 2
theorem sexB_12 {sx : Int} (h : sexB sx = true) : sx = 1 ∨ sx = 2 := by
  unfold sexB at h; simp only [Bool.or_eq_true, eqI_t] at h; exact h
theorem l7Sex_spec (x : Int) : FSpec env.P 104 [.int .i64 x] (.bool (sexB x)) := by
  refine FSpec_of_code env_ok (fn := Try.f104) Try.func104 rfl Try.call104 _ _ ?_
  ((repeat' (((repeat ((conv => whnf); first | refine brT ?_ | refine brF ?_)); conv => whnf); (refine And.intro ?_ ?_ <;> (intro h; rw [h]; revert h; intro _)))); all_goals ((repeat ((conv => whnf); first | refine brT ?_ | refine brF ?_)); conv => whnf))
  all_goals (refine fin ?_; simp_all [sexB])
theorem isSexB (x : Int) : FSpec env.P 109 [.int .i64 x] (.bool (sexB x)) := isSex_spec x
def okF (ps : List Per) (us : List Uni) (p sx : Int) : Bool := sexB sx && hasP ps us p
def foV (ps : List Per) (us : List Uni) (p sx : Int) : Int := match okF ps us p sx with | true => foAt ps sx p.toNat | false => 0
def foLV (ps : List Per) (us : List Uni) (p sx : Int) : LV := .tup [.int .i64 (foV ps us p sx), .bool (okF ps us p sx)]
theorem okF_no1 {ps : List Per} {us : List Uni} {p sx : Int} (h : sexB sx = false) : okF ps us p sx = false := by unfold okF; rw [h]; rfl
theorem okF_no2 {ps : List Per} {us : List Uni} {p sx : Int} (h : hasP ps us p = false) : okF ps us p sx = false := by unfold okF; rw [h]; simp
theorem okF_yes {ps : List Per} {us : List Uni} {p sx : Int} (h : sexB sx = true) (k : hasP ps us p = true) : okF ps us p sx = true := by unfold okF; rw [h, k]; rfl
theorem foLV_no {ps : List Per} {us : List Uni} {p sx : Int} (h : okF ps us p sx = false) : foLV ps us p sx = .tup [.int .i64 0, .bool false] := by unfold foLV foV; rw [h]
theorem foLV_yes {ps : List Per} {us : List Uni} {p sx : Int} (h : okF ps us p sx = true) : foLV ps us p sx = .tup [.int .i64 (foAt ps sx p.toNat), .bool true] := by unfold foLV foV; rw [h]
theorem hasP_in {ps : List Per} {us : List Uni} {p : Int} (h : hasP ps us p = true) : 0 ≤ p ∧ p.toNat < ps.length ∧ ps.length ≤ 40 ∧ parsIn ps := by
  obtain ⟨h0, h1, h2⟩ := hasP_lt h
  obtain ⟨k1, _, k2, _⟩ := famOk_parts h2
  exact ⟨h0, h1, k1, parsIn_of k2⟩
theorem founder_impl (ps : List Per) (us : List Uni) (p sx : Int) : FSpec env.P 30 [famLV ps us, .int .i64 p, .int .i64 sx] (foLV ps us p sx) := by
  refine FSpec_of_code env_ok (fn := Try.f30) Try.func30 rfl Try.call30 _ _ ?_
  ((repeat ((conv => whnf); first | refine brT ?_ | refine brF ?_)); conv => whnf)
  refine ⟨_, isSexB sx, ?_⟩
  ((repeat ((conv => whnf); first | refine brT ?_ | refine brF ?_)); conv => whnf)
  cases h1 : sexB sx
  · rw [foLV_no (okF_no1 h1)]
    rw [show notB false = true by simp [notB]]
    ((repeat ((conv => whnf); first | refine brT ?_ | refine brF ?_)); conv => whnf)
    (repeat (first | exact List.nodup_nil | refine ⟨rfl, ?_⟩))
  rw [show notB true = false by simp [notB]]
  ((repeat ((conv => whnf); first | refine brT ?_ | refine brF ?_)); conv => whnf)
  refine ⟨_, hasPerson_spec ps us p, ?_⟩
  ((repeat ((conv => whnf); first | refine brT ?_ | refine brF ?_)); conv => whnf)
  cases h2 : hasP ps us p
  · rw [foLV_no (okF_no2 h2)]
    rw [show notB false = true by simp [notB]]
    ((repeat ((conv => whnf); first | refine brT ?_ | refine brF ?_)); conv => whnf)
    (repeat (first | exact List.nodup_nil | refine ⟨rfl, ?_⟩))
  rw [show notB true = false by simp [notB]]
  rw [foLV_yes (okF_yes h1 h2)]
  obtain ⟨p0, pl, hl, hp⟩ := hasP_in h2
  ((repeat ((conv => whnf); first | refine brT ?_ | refine brF ?_)); conv => whnf)
  refine ⟨_, foundersOf_f ps us sx hl hp, ?_⟩
  ((repeat ((conv => whnf); first | refine brT ?_ | refine brF ?_)); conv => whnf)
  refine ⟨p.toNat, intLV (foAt ps sx p.toNat), by omega, by rw [List.getElem?_map, fos_get pl]; rfl, rfl, ?_⟩
  ((repeat ((conv => whnf); first | refine brT ?_ | refine brF ?_)); conv => whnf)
  (repeat (first | exact List.nodup_nil | refine ⟨rfl, ?_⟩))
theorem founder_spec (ps : List Per) (us : List Uni) (p sx : Int) : FSpec env.P 28 [famLV ps us, .int .i64 p, .int .i64 sx] (foLV ps us p sx) := by
  refine FSpec_of_code env_ok (fn := Try.f28) Try.func28 rfl Try.call28 _ _ ?_
  ((repeat ((conv => whnf); first | refine brT ?_ | refine brF ?_)); conv => whnf)
  refine ⟨_, l7Sex_spec sx, ?_⟩
  ((repeat ((conv => whnf); first | refine brT ?_ | refine brF ?_)); conv => whnf)
  cases h1 : sexB sx
  · rw [foLV_no (okF_no1 h1)]
    rw [show notB false = true by simp [notB]]
    ((repeat ((conv => whnf); first | refine brT ?_ | refine brF ?_)); conv => whnf)
    (repeat (first | exact List.nodup_nil | refine ⟨rfl, ?_⟩))
  rw [show notB true = false by simp [notB]]
  ((repeat ((conv => whnf); first | refine brT ?_ | refine brF ?_)); conv => whnf)
  refine ⟨_, l1Has_spec ps us p, ?_⟩
  ((repeat ((conv => whnf); first | refine brT ?_ | refine brF ?_)); conv => whnf)
  cases h2 : hasP ps us p
  · rw [foLV_no (okF_no2 h2)]
    rw [show notB false = true by simp [notB]]
    ((repeat ((conv => whnf); first | refine brT ?_ | refine brF ?_)); conv => whnf)
    (repeat (first | exact List.nodup_nil | refine ⟨rfl, ?_⟩))
  rw [show notB true = false by simp [notB]]
  rw [foLV_yes (okF_yes h1 h2)]
  obtain ⟨p0, pl, hl, hp⟩ := hasP_in h2
  have hf := l7Founder_spec ps us p.toNat sx (sexB_12 h1) hp pl
  rw [show ((p.toNat : Nat) : Int) = p by omega] at hf
  ((repeat ((conv => whnf); first | refine brT ?_ | refine brF ?_)); conv => whnf)
  refine ⟨_, hf, ?_⟩
  ((repeat ((conv => whnf); first | refine brT ?_ | refine brF ?_)); conv => whnf)
  (repeat (first | exact List.nodup_nil | refine ⟨rfl, ?_⟩))
def sameB (ps : List Per) (us : List Uni) (a b sx : Int) : Bool := okF ps us a sx && (okF ps us b sx && eqI (foV ps us a sx) (foV ps us b sx))
theorem sameLine_impl (ps : List Per) (us : List Uni) (a b sx : Int) : FSpec env.P 33 [famLV ps us, .int .i64 a, .int .i64 b, .int .i64 sx] (.bool (sameB ps us a b sx)) := by
  refine FSpec_of_code env_ok (fn := Try.f33) Try.func33 rfl Try.call33 _ _ ?_
  ((repeat ((conv => whnf); first | refine brT ?_ | refine brF ?_)); conv => whnf)
  refine ⟨_, founder_impl ps us a sx, ?_⟩
  ((repeat ((conv => whnf); first | refine brT ?_ | refine brF ?_)); conv => whnf)
  refine ⟨_, founder_impl ps us b sx, ?_⟩
  ((repeat' (((repeat ((conv => whnf); first | refine brT ?_ | refine brF ?_)); conv => whnf); (refine And.intro ?_ ?_ <;> (intro h; rw [h]; revert h; intro _)))); all_goals ((repeat ((conv => whnf); first | refine brT ?_ | refine brF ?_)); conv => whnf))
  all_goals (refine fin ?_; simp_all [sameB])
theorem sameLine_spec (ps : List Per) (us : List Uni) (a b sx : Int) : FSpec env.P 32 [famLV ps us, .int .i64 a, .int .i64 b, .int .i64 sx] (.bool (sameB ps us a b sx)) := by
  refine FSpec_of_code env_ok (fn := Try.f32) Try.func32 rfl Try.call32 _ _ ?_
  ((repeat ((conv => whnf); first | refine brT ?_ | refine brF ?_)); conv => whnf)
  refine ⟨true, by kernel_rfl, ?_⟩
  ((repeat ((conv => whnf); first | refine brT ?_ | refine brF ?_)); conv => whnf)
  refine ⟨_, l7Sex_spec sx, ?_⟩
  ((repeat ((conv => whnf); first | refine brT ?_ | refine brF ?_)); conv => whnf)
  (refine ⟨fun h1 => ?_, fun h1 => ?_⟩ <;> rw [h1])
  · ((repeat ((conv => whnf); first | refine brT ?_ | refine brF ?_)); conv => whnf)
    refine ⟨_, l1Has_spec ps us a, ?_⟩
    ((repeat ((conv => whnf); first | refine brT ?_ | refine brF ?_)); conv => whnf)
    (refine ⟨fun h2 => ?_, fun h2 => ?_⟩ <;> rw [h2])
    · ((repeat ((conv => whnf); first | refine brT ?_ | refine brF ?_)); conv => whnf)
      refine ⟨_, l1Has_spec ps us b, ?_⟩
      ((repeat ((conv => whnf); first | refine brT ?_ | refine brF ?_)); conv => whnf)
      (refine ⟨fun h3 => ?_, fun h3 => ?_⟩ <;> rw [h3])
      · obtain ⟨p0, pl, hl, hp⟩ := hasP_in h2
        obtain ⟨q0, ql, _, _⟩ := hasP_in h3
        have hf := l7Founder_spec ps us a.toNat sx (sexB_12 h1) hp pl
        rw [show ((a.toNat : Nat) : Int) = a by omega] at hf
        have hg := l7Founder_spec ps us b.toNat sx (sexB_12 h1) hp ql
        rw [show ((b.toNat : Nat) : Int) = b by omega] at hg
        ((repeat ((conv => whnf); first | refine brT ?_ | refine brF ?_)); conv => whnf)
        refine ⟨_, hf, ?_⟩
        ((repeat ((conv => whnf); first | refine brT ?_ | refine brF ?_)); conv => whnf)
        refine ⟨_, hg, ?_⟩
        ((repeat ((conv => whnf); first | refine brT ?_ | refine brF ?_)); conv => whnf)
        refine fin ?_
        unfold sameB foV
        rw [okF_yes h1 h2, okF_yes h1 h3]
        simp
      · ((repeat ((conv => whnf); first | refine brT ?_ | refine brF ?_)); conv => whnf)
        refine fin ?_; simp [sameB, okF_no2 h3]
    · ((repeat ((conv => whnf); first | refine brT ?_ | refine brF ?_)); conv => whnf)
      refine fin ?_; simp [sameB, okF_no2 h2]
  · ((repeat ((conv => whnf); first | refine brT ?_ | refine brF ?_)); conv => whnf)
    refine fin ?_; simp [sameB, okF_no1 h1]
theorem law_sameLine (ps : List Per) (us : List Uni) (a b sx : Int) (hf : FamOK ps us) : FSpec env.P 4 [famLV ps us, .int .i64 a, .int .i64 b, .int .i64 sx] (.bool true) := by
  refine FSpec_of_code env_ok (fn := Try.f4) Try.func4 rfl Try.call4 _ _ ?_
  ((repeat ((conv => whnf); first | refine brT ?_ | refine brF ?_)); conv => whnf)
  refine ⟨_, szFamily_spec ps us _, ?_⟩
  ((repeat ((conv => whnf); first | refine brT ?_ | refine brF ?_)); conv => whnf)
  (refine ⟨fun h => ?_, fun h => ?_⟩ <;> rw [h])
  · ((repeat ((conv => whnf); first | refine brT ?_ | refine brF ?_)); conv => whnf); exact fin rfl
  rw [ltI_f] at h
  obtain ⟨p1, u1, s1⟩ := szFam_ok (by omega) (by omega) hf h
  ((repeat' (((repeat ((conv => whnf); first | refine brT ?_ | refine brF ?_)); conv => whnf); first | (refine And.intro ?_ ?_ <;> (intro h; rw [h]; revert h; intro _)) | (refine Exists.intro true (And.intro (a := drawB _ _ = true) (by kernel_rfl) ?_)) | (refine Exists.intro _ (And.intro (toFamily_spec ps us p1 u1) ?_)) | (refine Exists.intro _ (And.intro (sameLine_spec ps us a b sx) ?_)) | (refine Exists.intro _ (And.intro (sameLine_impl ps us a b sx) ?_)) | (refine Exists.intro _ (And.intro (eqFamily_spec ps ps us us) ?_)))); all_goals ((repeat ((conv => whnf); first | refine brT ?_ | refine brF ?_)); conv => whnf))
  all_goals (refine fin ?_; simp_all [notB, eqB, eqFam_refl])
theorem law_founderOf (ps : List Per) (us : List Uni) (p sx : Int) (hf : FamOK ps us) : FSpec env.P 3 [famLV ps us, .int .i64 p, .int .i64 sx] (.bool true) := by
  refine FSpec_of_code env_ok (fn := Try.f3) Try.func3 rfl Try.call3 _ _ ?_
  ((repeat ((conv => whnf); first | refine brT ?_ | refine brF ?_)); conv => whnf)
  refine ⟨_, szFamily_spec ps us _, ?_⟩
  ((repeat ((conv => whnf); first | refine brT ?_ | refine brF ?_)); conv => whnf)
  (refine ⟨fun h => ?_, fun h => ?_⟩ <;> rw [h])
  · ((repeat ((conv => whnf); first | refine brT ?_ | refine brF ?_)); conv => whnf); exact fin rfl
  rw [ltI_f] at h
  obtain ⟨p1, u1, s1⟩ := szFam_ok (by omega) (by omega) hf h
  have hS := founder_spec ps us p sx
  have hI := founder_impl ps us p sx
  unfold foLV at hS hI
  generalize foV ps us p sx = v at hS hI
  generalize okF ps us p sx = b at hS hI
  ((repeat' (((repeat ((conv => whnf); first | refine brT ?_ | refine brF ?_)); conv => whnf); first | (refine And.intro ?_ ?_ <;> (intro h; rw [h]; revert h; intro _)) | (refine Exists.intro true (And.intro (a := drawB _ _ = true) (by kernel_rfl) ?_)) | (refine Exists.intro _ (And.intro (toFamily_spec ps us p1 u1) ?_)) | (refine Exists.intro _ (And.intro (hS) ?_)) | (refine Exists.intro _ (And.intro (hI) ?_)) | (refine Exists.intro _ (And.intro (eqFamily_spec ps ps us us) ?_)))); all_goals ((repeat ((conv => whnf); first | refine brT ?_ | refine brF ?_)); conv => whnf))
  all_goals (refine fin ?_; simp_all [notB, eqB, eqFam_refl, eqI_refl])
end Go.Proofs.Ytdhmnojnkgmmnaa

namespace Go.Proofs.Ytdhmnojnkgmmnaa
open Go.Lg
set_option maxHeartbeats 1600000
set_option maxRecDepth 10000
set_option linter.unusedVariables false
set_option linter.unusedSimpArgs false

end Go.Proofs.Ytdhmnojnkgmmnaa
namespace Go.Proofs.Ytdhmnojnkgmmnaa
open Go.Lg
set_option maxHeartbeats 800000
set_option maxRecDepth 10000
set_option linter.unusedVariables false
set_option linter.unusedSimpArgs false

/-! UnionEnd -/
def endLV : Option Int → LV
  | some y => .tup [.int .i64 y, .bool true]
  | none => .tup [.int .i64 0, .bool false]
def endOf2 (a b : Int) : Option Int := match eqI a (-1) with
  | true => (match eqI b (-1) with | true => none | false => some b)
  | false => (match eqI b (-1) with | true => some a | false => some (minI a b))
def endO (ps : List Per) (u : Uni) : Option Int := match eqI u.till (-1) with
  | false => some u.till
  | true => match ps[u.husband.toNat]?, ps[u.wife.toNat]? with
    | some x, some y => endOf2 x.died y.died
    | _, _ => none

/-- The union's two persons are of the family. -/
structure UniIn (ps : List Per) (u : Uni) : Prop where
  m0 : 0 ≤ u.husband
  ml : u.husband.toNat < ps.length
  w0 : 0 ≤ u.wife
  wl : u.wife.toNat < ps.length
/-- Years are years. -/
structure UniYears (ps : List Per) (u : Uni) (h : UniIn ps u) : Prop where
  t : u.till = -1 ∨ 0 ≤ u.till
  m : (ps[u.husband.toNat]'h.ml).died = -1 ∨ 0 ≤ (ps[u.husband.toNat]'h.ml).died
  w : (ps[u.wife.toNat]'h.wl).died = -1 ∨ 0 ≤ (ps[u.wife.toNat]'h.wl).died

theorem uni_of {ps : List Per} {us : List Uni} (h : famOk ps us = true) {k : Nat} (hk : k < us.length) : ∃ h : UniIn ps us[k], UniYears ps us[k] h := by
  obtain ⟨_, _, hp, hu, _⟩ := famOk_parts h
  have hok : unionOk ps (us.take k) us[k] = true := by
    cases e : unionOk ps (us.take k) us[k] with
    | true => rfl
    | false => rw [unionsTo_no hk hk e] at hu; cases hu
  unfold unionOk at hok
  simp only [Bool.and_eq_true] at hok
  obtain ⟨⟨h1, h2⟩, ⟨h3, h4⟩, h5, h6⟩ := hok
  obtain ⟨m0, ml, _⟩ := ofSex_lt h1
  obtain ⟨w0, wl, _⟩ := ofSex_lt h2
  refine ⟨⟨m0, ml, w0, wl⟩, ?_⟩
  have pm := personOk_spec (personsTo_get hp ml ml)
  have pw := personOk_spec (personsTo_get hp wl wl)
  unfold bothFit at h6
  rw [List.getElem?_eq_getElem ml, List.getElem?_eq_getElem wl] at h6
  simp only [fits, Bool.and_eq_true, leI_t] at h6
  unfold endYear at h4
  simp only [Bool.or_eq_true, Bool.and_eq_true, eqI_t, leI_t] at h4
  refine ⟨?_, ?_, ?_⟩
  · omega
  · omega
  · omega

theorem endOf2_years {a b : Int} (ha : a = -1 ∨ 0 ≤ a) (hb : b = -1 ∨ 0 ≤ b) : endOf2 a b = (if a < 0 ∧ b < 0 then none else some (if a < 0 ∨ (0 ≤ b ∧ b < a) then b else a)) := by
  unfold endOf2 minI
  grind [eqI_t, eqI_f]

def unionEndO (ps : List Per) (us : List Uni) (k : Int) : Option Int := match (leI 0 k && (ltI k (us.length : Int) && famOk ps us)) with
  | true => (match us[k.toNat]? with | some u => endO ps u | none => none)
  | false => none
end Go.Proofs.Ytdhmnojnkgmmnaa
namespace Go.Proofs.Ytdhmnojnkgmmnaa
open Go.Lg
set_option maxHeartbeats 1600000
set_option maxRecDepth 10000
set_option linter.unusedVariables false
set_option linter.unusedSimpArgs false

theorem toPersonS_h (ps : List Per) (hb : 56 * ps.length ≤ 281474976710656) : HSpec env.P 107 [.sl (ps.map Per.lv)] [] (.hs 0 ps.length) [.arr 116 6 (ps.map Per.lv)] := by
  refine HSpec_of_code (E := env.x [] 0) env_ok.x (fn := Try.f107) Try.func107 rfl Try.call107 _ _ _ _ ?_
  ((repeat ((conv => whnf); first | refine brT ?_ | refine brF ?_)); conv => whnf)
  intro hp
  have hp' : ps.length ≤ Go.maxLen := by simpa using hp
  ((repeat ((conv => whnf); first | refine brT ?_ | refine brF ?_)); conv => whnf)
  refine ⟨ps.length, by simp, by simp, hb, hp', rfl, by decide, ?_⟩
  ((repeat ((conv => whnf); first | refine brT ?_ | refine brF ?_)); conv => whnf)
  refine loop_rule (α := Nat) (fun k => [(4, .int .i64 (k : Int))]) (fun k => [.arr 116 6 (fillLV Per.lv zPer ps k)]) (fun k => ps.length - k) (fun k => k ≤ ps.length) 0 (Nat.zero_le _) ?_ ?_
  · refine ⟨?_, ⟨by simp [zPer, fillLV], trivial⟩, rfl, rfl⟩
    repeat ((conv => whnf); refine ⟨rfl, ?_⟩)
    trivial
  rintro k hk
  ((repeat ((conv => whnf); first | refine brT ?_ | refine brF ?_)); conv => whnf)
  intro _
  ((repeat ((conv => whnf); first | refine brT ?_ | refine brF ?_)); conv => whnf)
  refine ⟨fun h1 => ?_, fun h1 => ?_⟩ <;> rw [h1]
  · have hlt : k < ps.length := by rw [ltI_t] at h1; simp at h1; omega
    ((repeat ((conv => whnf); first | refine brT ?_ | refine brF ?_)); conv => whnf)
    refine ⟨k, ps[k].lv, rfl, by simp [hlt], rfl, ?_⟩
    ((repeat ((conv => whnf); first | refine brT ?_ | refine brF ?_)); conv => whnf)
    refine ⟨_, toPerson_spec ps[k], ?_⟩
    ((repeat ((conv => whnf); first | refine brT ?_ | refine brF ?_)); conv => whnf)
    refine ⟨(fill_len hk).symm, rfl, k, rfl, by rw [fill_len hk]; exact hlt, ?_⟩
    ((repeat ((conv => whnf); first | refine brT ?_ | refine brF ?_)); conv => whnf)
    refine ⟨(fill_len hk).symm, k, [], zPer, rfl, by simp [getP, fill_get hlt], rfl, rfl, rfl, _, rfl, ?_⟩
    ((repeat ((conv => whnf); first | refine brT ?_ | refine brF ?_)); conv => whnf)
    refine round_end (k + 1) hlt (by omega) ⟨?_, ⟨?_, trivial⟩, rfl, rfl⟩
    · have e := step_i hlt hp'
      repeat ((conv => whnf); first | refine ⟨e, ?_⟩ | refine ⟨rfl, ?_⟩)
      trivial
    · have e3 : (match (fillLV Per.lv zPer ps k)[k]? with | some z => (fillLV Per.lv zPer ps k).set k (setP z [] ps[k].lv) | none => fillLV Per.lv zPer ps k) = fillLV Per.lv zPer ps (k + 1) := by
        rw [fill_get hlt]
        simp only [zPer, setP]
        exact fill_set hlt
      exact congrArg (Blk.arr 116 6) e3
  · have h3 : ps.length ≤ k := by rw [ltI_f] at h1; simp at h1; omega
    have h4 : k = ps.length := by omega
    subst h4
    ((repeat ((conv => whnf); first | refine brT ?_ | refine brF ?_)); conv => whnf)
    exact ⟨[.hs 0 ps.length], rfl, rfl, .inl ⟨⟨rfl, trivial⟩, ⟨congrArg (Blk.arr 116 6) fill_all, trivial⟩, rfl, rfl⟩⟩
theorem toUnionS_h (ps : List Uni) (hb : 32 * ps.length ≤ 281474976710656) : HSpec env.P 108 [.sl (ps.map Uni.lv)] [] (.hs 0 ps.length) [.arr 110 4 (ps.map Uni.lv)] := by
  refine HSpec_of_code (E := env.x [] 0) env_ok.x (fn := Try.f108) Try.func108 rfl Try.call108 _ _ _ _ ?_
  ((repeat ((conv => whnf); first | refine brT ?_ | refine brF ?_)); conv => whnf)
  intro hp
  have hp' : ps.length ≤ Go.maxLen := by simpa using hp
  ((repeat ((conv => whnf); first | refine brT ?_ | refine brF ?_)); conv => whnf)
  refine ⟨ps.length, by simp, by simp, hb, hp', rfl, by decide, ?_⟩
  ((repeat ((conv => whnf); first | refine brT ?_ | refine brF ?_)); conv => whnf)
  refine loop_rule (α := Nat) (fun k => [(4, .int .i64 (k : Int))]) (fun k => [.arr 110 4 (fillLV Uni.lv zUni ps k)]) (fun k => ps.length - k) (fun k => k ≤ ps.length) 0 (Nat.zero_le _) ?_ ?_
  · refine ⟨?_, ⟨by simp [zUni, fillLV], trivial⟩, rfl, rfl⟩
    repeat ((conv => whnf); refine ⟨rfl, ?_⟩)
    trivial
  rintro k hk
  ((repeat ((conv => whnf); first | refine brT ?_ | refine brF ?_)); conv => whnf)
  intro _
  ((repeat ((conv => whnf); first | refine brT ?_ | refine brF ?_)); conv => whnf)
  refine ⟨fun h1 => ?_, fun h1 => ?_⟩ <;> rw [h1]
  · have hlt : k < ps.length := by rw [ltI_t] at h1; simp at h1; omega
    ((repeat ((conv => whnf); first | refine brT ?_ | refine brF ?_)); conv => whnf)
    refine ⟨k, ps[k].lv, rfl, by simp [hlt], rfl, ?_⟩
    ((repeat ((conv => whnf); first | refine brT ?_ | refine brF ?_)); conv => whnf)
    refine ⟨_, toUnion_spec ps[k], ?_⟩
    ((repeat ((conv => whnf); first | refine brT ?_ | refine brF ?_)); conv => whnf)
    refine ⟨(fill_len hk).symm, rfl, k, rfl, by rw [fill_len hk]; exact hlt, ?_⟩
    ((repeat ((conv => whnf); first | refine brT ?_ | refine brF ?_)); conv => whnf)
    refine ⟨(fill_len hk).symm, k, [], zUni, rfl, by simp [getP, fill_get hlt], rfl, rfl, rfl, _, rfl, ?_⟩
    ((repeat ((conv => whnf); first | refine brT ?_ | refine brF ?_)); conv => whnf)
    refine round_end (k + 1) hlt (by omega) ⟨?_, ⟨?_, trivial⟩, rfl, rfl⟩
    · have e := step_i hlt hp'
      repeat ((conv => whnf); first | refine ⟨e, ?_⟩ | refine ⟨rfl, ?_⟩)
      trivial
    · have e3 : (match (fillLV Uni.lv zUni ps k)[k]? with | some z => (fillLV Uni.lv zUni ps k).set k (setP z [] ps[k].lv) | none => fillLV Uni.lv zUni ps k) = fillLV Uni.lv zUni ps (k + 1) := by
        rw [fill_get hlt]
        simp only [zUni, setP]
        exact fill_set hlt
      exact congrArg (Blk.arr 110 4) e3
  · have h3 : ps.length ≤ k := by rw [ltI_f] at h1; simp at h1; omega
    have h4 : k = ps.length := by omega
    subst h4
    ((repeat ((conv => whnf); first | refine brT ?_ | refine brF ?_)); conv => whnf)
    exact ⟨[.hs 0 ps.length], rfl, rfl, .inl ⟨⟨rfl, trivial⟩, ⟨congrArg (Blk.arr 110 4) fill_all, trivial⟩, rfl, rfl⟩⟩

def famHS (a b : Nat) : LV := .st [.hs 0 a, .hs 1 b]
theorem toFamily_h (ps : List Per) (us : List Uni) (hp : 56 * ps.length ≤ 281474976710656) (hu : 32 * us.length ≤ 281474976710656) :
    HSpec env.P 29 [famLV ps us] [] (famHS ps.length us.length) [.arr 116 6 (ps.map Per.lv), .arr 110 4 (us.map Uni.lv)] := by
  refine HSpec_of_code (E := env.x [107, 108] 0) env_ok.x (fn := Try.f29) Try.func29 rfl Try.call29 _ _ _ _ ?_
  ((repeat ((conv => whnf); first | refine brT ?_ | refine brF ?_)); conv => whnf)
  refine ⟨[], _, _, _, _, toPersonS_h ps hp, rfl, rfl, rfl, trivial, ?_⟩
  ((repeat ((conv => whnf); first | refine brT ?_ | refine brF ?_)); conv => whnf)
  refine ⟨[], _, _, _, _, toUnionS_h us hu, rfl, rfl, rfl, trivial, ?_⟩
  ((repeat ((conv => whnf); first | refine brT ?_ | refine brF ?_)); conv => whnf)
  refine ⟨[famHS ps.length us.length], rfl, rfl, .inr ⟨[.old 3, .old 4], ?_, ?_, rfl⟩⟩
  · ((repeat ((conv => whnf); refine ⟨rfl, rfl, ?_⟩)); trivial)
  · exact ⟨rfl, rfl, rfl, rfl, trivial⟩
end Go.Proofs.Ytdhmnojnkgmmnaa

namespace Go.Proofs.Ytdhmnojnkgmmnaa
open Go.Lg
set_option maxHeartbeats 1600000
set_option maxRecDepth 10000
set_option linter.unusedVariables false
set_option linter.unusedSimpArgs false

def markUni (k : Nat) : Uni := ⟨(k : Int), (k : Int) + 1, (k : Int) + 2, (k : Int) + 3⟩
def markUnis (k : Nat) : Nat → List Uni
  | 0 => []
  | n + 1 => markUnis k n ++ [markUni (k + 4 * n)]
theorem markUnis_len (k : Nat) : ∀ n, (markUnis k n).length = n
  | 0 => rfl
  | n + 1 => by simp [markUnis, markUnis_len k n]
def rowUM (k : Nat) (ps : List Uni) (i : Nat) : List LV := (markUnis k i ++ ps.drop i).map Uni.lv
theorem rowUM_len {k : Nat} {ps : List Uni} {i : Nat} (h : i ≤ ps.length) : (rowUM k ps i).length = ps.length := by simp [rowUM, markUnis_len]; omega
theorem rowUM_get {k : Nat} {ps : List Uni} {i : Nat} (h : i < ps.length) : (rowUM k ps i)[i]? = some ps[i].lv := by
  unfold rowUM
  rw [List.getElem?_map, List.getElem?_append_right (by rw [markUnis_len]; exact Nat.le_refl _), markUnis_len, Nat.sub_self, List.getElem?_drop, Nat.add_zero, List.getElem?_eq_getElem h]
  rfl
theorem rowUM_set {k : Nat} {ps : List Uni} {i : Nat} (h : i < ps.length) : (rowUM k ps i).set i (markUni (k + 4 * i)).lv = rowUM k ps (i + 1) := by
  unfold rowUM
  rw [List.drop_eq_getElem_cons h, List.map_append, List.map_cons, List.set_append_right _ _ (by simp [markUnis_len])]
  simp [markUnis, markUnis_len]

theorem markUnionS_spec (ps : List Uni) (n : Nat) (hn : n = (ps.map Uni.lv).length) (k : Nat) (h1 : k + 4 * ps.length ≤ 2305843009213693952) :
    HSpec env.P 127 [.hs 0 n, .int .i64 (k : Int)] [.arr 110 4 (ps.map Uni.lv)] (.int .i64 ((k + 4 * ps.length : Nat) : Int)) [.arr 110 4 ((markUnis k ps.length).map Uni.lv)] := by
  subst hn
  refine HSpec_of_code (E := env.x [] 1) env_ok.x (fn := Try.f127) Try.func127 rfl Try.call127 _ _ _ _ ?_
  ((repeat ((conv => whnf); first | refine brT ?_ | refine brF ?_)); conv => whnf)
  refine loop_rule (α := Nat) (fun i => [(5, .int .i64 (i : Int)), (1, .int .i64 ((k + 4 * i : Nat) : Int)), (0, .hs 0 (rowUM k ps i).length)]) (fun i => [.arr 110 4 (rowUM k ps i)]) (fun i => ps.length - i) (fun i => i ≤ ps.length) 0 (Nat.zero_le _) ?_ ?_
  · have e0 : ps.map Uni.lv = rowUM k ps 0 := by simp [rowUM, markUnis]
    have e1 : LV.hs 0 (ps.map Uni.lv).length = LV.hs 0 (rowUM k ps 0).length := by rw [e0]
    refine ⟨?_, ⟨congrArg (Blk.arr 110 4) e0, trivial⟩, rfl, rfl⟩
    ((repeat ((conv => whnf); first | refine ⟨e1, ?_⟩ | refine ⟨rfl, ?_⟩)); trivial)
  intro i hi
  have hl := rowUM_len (k := k) hi
  ((repeat ((conv => whnf); first | refine brT ?_ | refine brF ?_)); conv => whnf)
  refine ⟨rfl, fun hm => ?_⟩
  have hm' : ps.length ≤ Go.maxLen := by rw [← hl]; exact hm
  ((repeat ((conv => whnf); first | refine brT ?_ | refine brF ?_)); conv => whnf)
  (refine ⟨fun g1 => ?_, fun g1 => ?_⟩ <;> rw [g1])
  · have hlt : i < ps.length := by rw [ltI_t] at g1; omega
    have e := step_i hlt hm'
    have hiL : i < (rowUM k ps i).length := by omega
    have hg := rowUM_get (k := k) hlt
    have hset := rowUM_set (k := k) hlt
    have w0 : IntKind.i64.wrap (((k + 4 * i : Nat) : Int) + 1) = ((k + 4 * i : Nat) : Int) + 1 := wrap64 (by omega) (by omega)
    have w1 : IntKind.i64.wrap (((k + 4 * i : Nat) : Int) + 1 + 1) = ((k + 4 * i : Nat) : Int) + 2 := by rw [wrap64 (by omega) (by omega)]; omega
    have w2 : IntKind.i64.wrap (((k + 4 * i : Nat) : Int) + 2 + 1) = ((k + 4 * i : Nat) : Int) + 3 := by rw [wrap64 (by omega) (by omega)]; omega
    have w3 : IntKind.i64.wrap (((k + 4 * i : Nat) : Int) + 3 + 1) = ((k + 4 * (i + 1) : Nat) : Int) := by rw [wrap64 (by omega) (by omega)]; omega
    have hlen : ∀ x : LV, (rowUM k ps i).length = ((rowUM k ps i).set i x).length := fun x => by simp
    generalize ps[i] = p at hg hset
    generalize hK : ((k + 4 * i : Nat) : Int) = kk at w0 w1 w2 w3 ⊢
    have hfin : (rowUM k ps i).set i (.st [.int .i64 kk, .int .i64 (kk + 1), .int .i64 (kk + 2), .int .i64 (kk + 3)]) = rowUM k ps (i + 1) := by
      rw [← hset]; unfold markUni Uni.lv; rw [hK]
    generalize rowUM k ps i = L at hl hm hiL hg hlen hfin g1 ⊢
    have hgp : getP (.st L) [i] = some (.st [LV.int .i64 p.husband, LV.int .i64 p.wife, LV.int .i64 p.since, LV.int .i64 p.till]) := by simp [getP, hg, Uni.lv]
    have hgp0 : getP (.st L) [i, 0] = some (.int .i64 p.husband) := by simp [getP, hg, Uni.lv]
    ((repeat ((conv => whnf); first | refine brT ?_ | refine brF ?_)); conv => whnf)
    refine ⟨rfl, rfl, i, rfl, hiL, ?_⟩
    ((repeat ((conv => whnf); first | refine brT ?_ | refine brF ?_)); conv => whnf)
    refine ⟨rfl, by simp, [LV.int .i64 p.husband, LV.int .i64 p.wife, LV.int .i64 p.since, LV.int .i64 p.till], hgp, rfl, by simp, ?_⟩
    ((repeat ((conv => whnf); first | refine brT ?_ | refine brF ?_)); conv => whnf)
    refine ⟨rfl, i, [0], .int .i64 p.husband, rfl, hgp0, rfl, rfl, rfl, L.set i (.st [.int .i64 kk, .int .i64 p.wife, .int .i64 p.since, .int .i64 p.till]), by rw [hg]; rfl, ?_⟩
    ((repeat ((conv => whnf); first | refine brT ?_ | refine brF ?_)); conv => whnf)
    rw [w0]
    refine ⟨hlen _, rfl, i, rfl, by simpa using hiL, ?_⟩
    ((repeat ((conv => whnf); first | refine brT ?_ | refine brF ?_)); conv => whnf)
    refine ⟨hlen _, by simp, _, fw_get hiL _, rfl, by simp, ?_⟩
    ((repeat ((conv => whnf); first | refine brT ?_ | refine brF ?_)); conv => whnf)
    refine ⟨hlen _, i, [1], _, rfl, fw_get2 hiL rfl, rfl, rfl, rfl, _, fw_set hiL rfl (.int .i64 (kk + 1)), ?_⟩
    ((repeat ((conv => whnf); first | refine brT ?_ | refine brF ?_)); conv => whnf)
    rw [w1]
    refine ⟨hlen _, rfl, i, rfl, by simpa using hiL, ?_⟩
    ((repeat ((conv => whnf); first | refine brT ?_ | refine brF ?_)); conv => whnf)
    refine ⟨hlen _, by simp, _, fw_get hiL _, rfl, by simp, ?_⟩
    ((repeat ((conv => whnf); first | refine brT ?_ | refine brF ?_)); conv => whnf)
    refine ⟨hlen _, i, [2], _, rfl, fw_get2 hiL rfl, rfl, rfl, rfl, _, fw_set hiL rfl (.int .i64 (kk + 2)), ?_⟩
    ((repeat ((conv => whnf); first | refine brT ?_ | refine brF ?_)); conv => whnf)
    rw [w2]
    refine ⟨hlen _, rfl, i, rfl, by simpa using hiL, ?_⟩
    ((repeat ((conv => whnf); first | refine brT ?_ | refine brF ?_)); conv => whnf)
    refine ⟨hlen _, by simp, _, fw_get hiL _, rfl, by simp, ?_⟩
    ((repeat ((conv => whnf); first | refine brT ?_ | refine brF ?_)); conv => whnf)
    refine ⟨hlen _, i, [3], _, rfl, fw_get2 hiL rfl, rfl, rfl, rfl, _, fw_set hiL rfl (.int .i64 (kk + 3)), ?_⟩
    ((repeat ((conv => whnf); first | refine brT ?_ | refine brF ?_)); conv => whnf)
    have e5 : LV.hs 0 L.length = LV.hs 0 (rowUM k ps (i + 1)).length := by rw [hl, rowUM_len (by omega)]
    have e6 : LV.int .i64 (IntKind.i64.wrap (kk + 3 + 1)) = LV.int .i64 ((k + 4 * (i + 1) : Nat) : Int) := by rw [w3]
    refine round_end (i + 1) hlt (by omega) ⟨?_, ⟨congrArg (Blk.arr 110 4) hfin, trivial⟩, rfl, rfl⟩
    repeat ((conv => whnf); first | refine ⟨e, ?_⟩ | refine ⟨e6, ?_⟩ | refine ⟨e5, ?_⟩ | refine ⟨rfl, ?_⟩)
    trivial
  · have h3 : i = ps.length := by rw [ltI_f] at g1; omega
    subst h3
    ((repeat ((conv => whnf); first | refine brT ?_ | refine brF ?_)); conv => whnf)
    exact ⟨[.int .i64 ((k + 4 * ps.length : Nat) : Int)], rfl, rfl, .inl ⟨⟨rfl, trivial⟩, ⟨by simp [rowUM], trivial⟩, rfl, rfl⟩⟩

theorem markFamily_spec (ps : List Per) (us : List Uni) (k : Nat) (h1 : k + 6 * ps.length + 4 * us.length ≤ 2305843009213693952) :
    HSpec env.P 43 [famHS ps.length us.length, .int .i64 (k : Int)] [.arr 116 6 (ps.map Per.lv), .arr 110 4 (us.map Uni.lv)] (.int .i64 ((k + 6 * ps.length + 4 * us.length : Nat) : Int))
      [.arr 116 6 ((markPers k ps.length).map Per.lv), .arr 110 4 ((markUnis (k + 6 * ps.length) us.length).map Uni.lv)] := by
  refine HSpec_of_code (E := env.x [126, 127] 2) env_ok.x (fn := Try.f43) Try.func43 rfl Try.call43 _ _ _ _ ?_
  ((repeat ((conv => whnf); first | refine brT ?_ | refine brF ?_)); conv => whnf)
  refine ⟨[0], _, _, _, _, markPersonS_spec ps ps.length (by simp) k (by omega), rfl, rfl, rfl, trivial, ?_⟩
  ((repeat ((conv => whnf); first | refine brT ?_ | refine brF ?_)); conv => whnf)
  refine ⟨[1], _, _, _, _, markUnionS_spec us us.length (by simp) (k + 6 * ps.length) (by omega), rfl, rfl, rfl, trivial, ?_⟩
  ((repeat ((conv => whnf); first | refine brT ?_ | refine brF ?_)); conv => whnf)
  exact ⟨[.int .i64 ((k + 6 * ps.length + 4 * us.length : Nat) : Int)], rfl, rfl, .inl ⟨⟨rfl, trivial⟩, ⟨rfl, rfl, trivial⟩, rfl, rfl⟩⟩

theorem knownParents_h (p : Per) : HSpec env.P 195 [p.lv] [] (.hs 0 ((known p).map intLV).length) [.arr 3 1 ((known p).map intLV)] := by
  refine HSpec_of_code (E := env.x [] 0) env_ok.x (fn := Try.f195) Try.func195 rfl Try.call195 _ _ _ _ ?_
  ((repeat ((conv => whnf); first | refine brT ?_ | refine brF ?_)); conv => whnf)
  refine ⟨rfl, fun _ => ?_⟩
  ((repeat ((conv => whnf); first | refine brT ?_ | refine brF ?_)); conv => whnf)
  refine loop_ruleR (α := Nat) [.old 0, .old 1, .nil 3 1] (fun k => [(12, .int .i64 (k : Int)), (3, .hs 2 ((knownTo p k).map intLV).length)]) (fun k => [.box p.lv, .arr 3 1 [.int .i64 p.father, .int .i64 p.mother], .arr 3 1 ((knownTo p k).map intLV)])
    (fun k => 2 - k) (fun k => k ≤ 2) 0 (by omega) ?_ ?_
  · refine ⟨?_, ⟨rfl, rfl, rfl, rfl, rfl, rfl, trivial⟩, rfl⟩
    ((repeat ((conv => whnf); refine ⟨rfl, rfl, ?_⟩)); trivial)
  intro k hk
  ((repeat ((conv => whnf); first | refine brT ?_ | refine brF ?_)); conv => whnf)
  have hn := knownTo_len p k
  have hn1 := knownTo_len p (k + 1)
  (refine ⟨fun h1 => ?_, fun h1 => ?_⟩ <;> rw [h1])
  · have hlt : k < 2 := by rw [ltI_t] at h1; simp at h1; omega
    have hs := knownTo_succ p k hlt
    ((repeat ((conv => whnf); first | refine brT ?_ | refine brF ?_)); conv => whnf)
    refine ⟨rfl, by decide, k, rfl, hlt, ?_⟩
    ((repeat ((conv => whnf); first | refine brT ?_ | refine brF ?_)); conv => whnf)
    refine ⟨rfl, by simp, .int .i64 ([p.father, p.mother][k]'hlt), ?_, rfl, ?_⟩
    · match k, hlt with
      | 0, _ => rfl
      | 1, _ => rfl
    ((repeat ((conv => whnf); first | refine brT ?_ | refine brF ?_)); conv => whnf)
    have e : LV.int .i64 (IntKind.i64.wrap ((k : Int) + 1)) = LV.int .i64 ((k + 1 : Nat) : Int) := step_i hlt (by decide)
    (refine ⟨fun h2 => ?_, fun h2 => ?_⟩ <;> rw [h2])
    · rw [show notNone ([p.father, p.mother][k]'hlt) = true from h2, if_pos rfl] at hs
      have e2 : ((knownTo p k).map intLV ++ [LV.int .i64 ([p.father, p.mother][k]'hlt)]) = (knownTo p (k + 1)).map intLV := by rw [hs, List.map_append]; rfl
      have e3 : LV.hs 2 ((knownTo p k).map intLV ++ [LV.int .i64 ([p.father, p.mother][k]'hlt)]).length = LV.hs 2 ((knownTo p (k + 1)).map intLV).length := by rw [e2]
      ((repeat ((conv => whnf); first | refine brT ?_ | refine brF ?_)); conv => whnf)
      refine ⟨rfl, rfl, ?_, ?_, ?_⟩
      · rw [e2]; unfold Go.maxLen; simp; omega
      · rw [e2]; simp; omega
      ((repeat ((conv => whnf); first | refine brT ?_ | refine brF ?_)); conv => whnf)
      refine round_endR [.old 0, .old 1, .old 4] (k + 1) hlt (by omega) ⟨?_, ⟨rfl, rfl, rfl, rfl, rfl, congrArg (Blk.arr 3 1) e2, trivial⟩, rfl⟩
      repeat ((conv => whnf); first | refine ⟨rfl, e, ?_⟩ | refine ⟨rfl, e3, ?_⟩ | refine ⟨rfl, rfl, ?_⟩)
      trivial
    · rw [show notNone ([p.father, p.mother][k]'hlt) = false from h2, if_neg (by decide), List.append_nil] at hs
      have e2 : (knownTo p k).map intLV = (knownTo p (k + 1)).map intLV := by rw [hs]
      have e3 : LV.hs 2 ((knownTo p k).map intLV).length = LV.hs 2 ((knownTo p (k + 1)).map intLV).length := by rw [e2]
      ((repeat ((conv => whnf); first | refine brT ?_ | refine brF ?_)); conv => whnf)
      refine round_end (k + 1) hlt (by omega) ⟨?_, ⟨rfl, rfl, congrArg (Blk.arr 3 1) e2, trivial⟩, rfl, rfl⟩
      repeat ((conv => whnf); first | refine ⟨e, ?_⟩ | refine ⟨e3, ?_⟩ | refine ⟨rfl, ?_⟩)
      trivial
  · have h3 : k = 2 := by rw [ltI_f] at h1; simp at h1; omega
    subst h3
    ((repeat ((conv => whnf); first | refine brT ?_ | refine brF ?_)); conv => whnf)
    exact ⟨[.hs 0 ((known p).map intLV).length], rfl, rfl, .inr ⟨[.old 2], ⟨rfl, rfl, trivial⟩, ⟨rfl, rfl, trivial⟩, rfl⟩⟩

def parentsL (ps : List Per) (us : List Uni) (p : Int) : List Int := match hasP ps us p with
  | true => match ps[p.toNat]? with | some x => known x | none => []
  | false => []
theorem toFamily_hm (ps : List Per) (us : List Uni) (hp : 56 * ps.length ≤ 281474976710656) (hu : 32 * us.length ≤ 281474976710656) :
    HSpec env.P 29 [famLV ps us] [] (famHS (ps.map Per.lv).length (us.map Uni.lv).length) [.arr 116 6 (ps.map Per.lv), .arr 110 4 (us.map Uni.lv)] := by
  rw [List.length_map, List.length_map]; exact toFamily_h ps us hp hu
theorem markFamily_hm (ps : List Per) (us : List Uni) (k : Nat) (h1 : k + 6 * ps.length + 4 * us.length ≤ 2305843009213693952) :
    HSpec env.P 43 [famHS (ps.map Per.lv).length (us.map Uni.lv).length, .int .i64 (k : Int)] [.arr 116 6 (ps.map Per.lv), .arr 110 4 (us.map Uni.lv)] (.int .i64 ((k + 6 * ps.length + 4 * us.length : Nat) : Int))
      [.arr 116 6 ((markPers k ps.length).map Per.lv), .arr 110 4 ((markUnis (k + 6 * ps.length) us.length).map Uni.lv)] := by
  rw [List.length_map, List.length_map]; exact markFamily_spec ps us k h1
end Go.Proofs.Ytdhmnojnkgmmnaa

namespace Go.Proofs.Ytdhmnojnkgmmnaa
open Go.Lg
set_option maxHeartbeats 1600000
set_option maxRecDepth 10000
set_option linter.unusedVariables false
set_option linter.unusedSimpArgs false

theorem parIn_cases {x : Int} {n : Nat} (h : parIn x n) : x = -1 ∨ 0 ≤ x := by
  rcases h with h | h
  · exact .inl h
  · exact .inr h.1

theorem known_len (p : Per) : (known p).length ≤ 2 := knownTo_len p 2
theorem parentsL_len (ps : List Per) (us : List Uni) (p : Int) : (parentsL ps us p).length ≤ 2 := by
  unfold parentsL
  split
  · split
    · exact known_len _
    · simp
  · simp

end Go.Proofs.Ytdhmnojnkgmmnaa
namespace Go.Proofs.Ytdhmnojnkgmmnaa
open Go.Lg
set_option maxHeartbeats 1600000
set_option maxRecDepth 10000
set_option linter.unusedVariables false
set_option linter.unusedSimpArgs false

/-! A table that is filled row by row. -/
def doneP (N : Nat) (V : Nat → Nat → Bool) (k i : Nat) : Nat → Nat → Bool := fun a b => decide ((a < k ∧ b < N) ∨ (a = k ∧ b < i)) && V a b
theorem doneP_zero (N : Nat) (V : Nat → Nat → Bool) : doneP N V 0 0 = fun _ _ => false := by funext a b; simp [doneP]
theorem doneP_put {N : Nat} {V : Nat → Nat → Bool} {k i : Nat} (hi : i < N) : putP (doneP N V k i) k i (V k i) = doneP N V k (i + 1) := by
  funext a b
  unfold putP doneP
  by_cases h : a = k ∧ b = i
  · obtain ⟨rfl, rfl⟩ := h; simp
  · rw [if_neg h]
    congr 1
    rw [decide_eq_decide]
    constructor
    · rintro (h1 | h1)
      · exact .inl h1
      · exact .inr ⟨h1.1, by omega⟩
    · rintro (h1 | h1)
      · exact .inl h1
      · exact .inr ⟨h1.1, by omega⟩
theorem doneP_skip {N : Nat} {V : Nat → Nat → Bool} {k i : Nat} (hi : i < N) (h : V k i = false) : doneP N V k i = doneP N V k (i + 1) := by
  rw [← doneP_put hi, h]
  funext a b
  unfold putP
  by_cases e : a = k ∧ b = i
  · obtain ⟨rfl, rfl⟩ := e; rw [if_pos ⟨rfl, rfl⟩]; simp [doneP, h]
  · rw [if_neg e]
theorem doneP_row (N : Nat) (V : Nat → Nat → Bool) (k : Nat) : doneP N V k N = doneP N V (k + 1) 0 := by
  funext a b
  unfold doneP
  congr 1
  rw [decide_eq_decide]
  omega
theorem doneP_all (N : Nat) (V : Nat → Nat → Bool) : ∀ a, a < N → ∀ b, b < N → doneP N V N 0 a b = V a b := fun a ha b hb => by simp [doneP, ha, hb]

/-! ### Steps in a family, as the model has them -/
theorem l1Other_spec (u : Uni) (a : Int) : FSpec env.P 280 [u.lv, .int .i64 a]
    (match eqI u.husband a with | true => .tup [.int .i64 u.wife, .bool true] | false => .tup [.int .i64 u.husband, .bool (eqI u.wife a)]) := by
  refine FSpec_of_code env_ok (fn := Try.f280) Try.func280 rfl Try.call280 _ _ ?_
  ((repeat ((conv => whnf); first | refine brT ?_ | refine brF ?_)); conv => whnf)
  (refine ⟨fun h => ?_, fun h => ?_⟩ <;> rw [h])
  · ((repeat ((conv => whnf); first | refine brT ?_ | refine brF ?_)); conv => whnf); repeat' (first | rfl | (refine And.intro ?_ ?_) | exact List.nodup_nil)
  · ((repeat ((conv => whnf); first | refine brT ?_ | refine brF ?_)); conv => whnf)
    refine ⟨true, by kernel_rfl, ?_⟩
    ((repeat ((conv => whnf); first | refine brT ?_ | refine brF ?_)); conv => whnf)
    repeat' (first | rfl | (refine And.intro ?_ ?_) | exact List.nodup_nil)
def fullB (x y : Per) (a b : Int) : Bool := notB (eqI a b) && (leI 0 x.father && (leI 0 x.mother && (eqI x.father y.father && eqI x.mother y.mother)))
theorem l1Full_spec (ps : List Per) (us : List Uni) (a b : Nat) (ha : a < ps.length) (hb : b < ps.length) :
    FSpec env.P 154 [famLV ps us, .int .i64 (a : Int), .int .i64 (b : Int)] (.bool (fullB ps[a] ps[b] a b)) := by
  refine FSpec_of_code env_ok (fn := Try.f154) Try.func154 rfl Try.call154 _ _ ?_
  ((repeat ((conv => whnf); first | refine brT ?_ | refine brF ?_)); conv => whnf)
  refine ⟨a, ps[a].lv, rfl, by simp [ha], rfl, ?_⟩
  ((repeat ((conv => whnf); first | refine brT ?_ | refine brF ?_)); conv => whnf)
  refine ⟨b, ps[b].lv, rfl, by simp [hb], rfl, ?_⟩
  ((repeat' (((repeat ((conv => whnf); first | refine brT ?_ | refine brF ?_)); conv => whnf); (refine And.intro ?_ ?_ <;> (intro h; rw [h]; revert h; intro _)))); all_goals ((repeat ((conv => whnf); first | refine brT ?_ | refine brF ?_)); conv => whnf))
  all_goals (refine fin ?_; simp [fullB, *])
def wedB (a b : Int) (u : Uni) : Bool := match eqI u.husband a with | true => eqI u.wife b | false => eqI u.wife a && eqI u.husband b
def ageB (ps : List Per) (g a b : Int) : Bool := (notB (eqI g 1) || elder ps b a) && (notB (eqI g 2) || elder ps a b)
def kinB (ps : List Per) (us : List Uni) (k g : Int) (x y : Per) (a b : Int) : Bool := match eqI k 1 with
  | true => eqI x.father b
  | false => match eqI k 2 with
    | true => eqI x.mother b
    | false => match eqI k 5 || eqI k 6 with
      | true => eqI y.father a || eqI y.mother a
      | false => match eqI k 7 || eqI k 8 with
        | true => us.any (wedB a b)
        | false => ageB ps g a b && fullB x y a b
def l3P (ps : List Per) (us : List Uni) (s : Pr) (a b : Nat) : Bool := match ps[a]?, ps[b]? with
  | some x, some y => eqI y.sex (sxOf s.a) && kinB ps us s.a s.b x y a b
  | _, _ => false
end Go.Proofs.Ytdhmnojnkgmmnaa

namespace Go.Proofs.Ytdhmnojnkgmmnaa
open Go.Lg
set_option maxHeartbeats 6400000
set_option maxRecDepth 10000
set_option linter.unusedVariables false
set_option linter.unusedSimpArgs false

theorem l3Leads_no (ps : List Per) (us : List Uni) (s : Pr) (a b : Nat) (ha : a < ps.length) (hb : b < ps.length) (h : eqI ps[b].sex (sxOf s.a) = false) :
    FSpec env.P 237 [famLV ps us, s.lv, .int .i64 (a : Int), .int .i64 (b : Int)] (.bool (l3P ps us s a b)) := by
  have hV : l3P ps us s a b = (eqI ps[b].sex (sxOf s.a) && kinB ps us s.a s.b ps[a] ps[b] a b) := by simp [l3P, ha, hb]
  refine FSpec_of_code env_ok (fn := Try.f237) Try.func237 rfl Try.call237 _ _ ?_
  ((repeat ((conv => whnf); first | refine brT ?_ | refine brF ?_)); conv => whnf)
  refine ⟨a, ps[a].lv, rfl, by simp [ha], rfl, ?_⟩
  ((repeat ((conv => whnf); first | refine brT ?_ | refine brF ?_)); conv => whnf)
  refine ⟨b, ps[b].lv, rfl, by simp [hb], rfl, ?_⟩
  ((repeat ((conv => whnf); first | refine brT ?_ | refine brF ?_)); conv => whnf)
  refine ⟨true, by kernel_rfl, ?_⟩
  ((repeat ((conv => whnf); first | refine brT ?_ | refine brF ?_)); conv => whnf)
  refine ⟨_, l3Sex_spec _, ?_⟩
  ((repeat ((conv => whnf); first | refine brT ?_ | refine brF ?_)); conv => whnf)
  rw [h, show notB false = true by simp [notB]]
  ((repeat ((conv => whnf); first | refine brT ?_ | refine brF ?_)); conv => whnf)
  refine fin ?_
  simp [hV, h]
end Go.Proofs.Ytdhmnojnkgmmnaa

namespace Go.Proofs.Ytdhmnojnkgmmnaa
open Go.Lg
set_option maxHeartbeats 6400000
set_option maxRecDepth 10000
set_option linter.unusedVariables false
set_option linter.unusedSimpArgs false

theorem l3Leads_kin (ps : List Per) (us : List Uni) (s : Pr) (a b : Nat) (ha : a < ps.length) (hb : b < ps.length) (h : eqI ps[b].sex (sxOf s.a) = true) (hk : (eqI s.a 1 || eqI s.a 2 || eqI s.a 5 || eqI s.a 6) = true) :
    FSpec env.P 237 [famLV ps us, s.lv, .int .i64 (a : Int), .int .i64 (b : Int)] (.bool (l3P ps us s a b)) := by
  have hV : l3P ps us s a b = (eqI ps[b].sex (sxOf s.a) && kinB ps us s.a s.b ps[a] ps[b] a b) := by simp [l3P, ha, hb]
  refine FSpec_of_code env_ok (fn := Try.f237) Try.func237 rfl Try.call237 _ _ ?_
  ((repeat ((conv => whnf); first | refine brT ?_ | refine brF ?_)); conv => whnf)
  refine ⟨a, ps[a].lv, rfl, by simp [ha], rfl, ?_⟩
  ((repeat ((conv => whnf); first | refine brT ?_ | refine brF ?_)); conv => whnf)
  refine ⟨b, ps[b].lv, rfl, by simp [hb], rfl, ?_⟩
  ((repeat ((conv => whnf); first | refine brT ?_ | refine brF ?_)); conv => whnf)
  refine ⟨true, by kernel_rfl, ?_⟩
  ((repeat ((conv => whnf); first | refine brT ?_ | refine brF ?_)); conv => whnf)
  refine ⟨_, l3Sex_spec _, ?_⟩
  ((repeat ((conv => whnf); first | refine brT ?_ | refine brF ?_)); conv => whnf)
  rw [h, show notB true = false by simp [notB]]
  ((repeat ((conv => whnf); first | refine brT ?_ | refine brF ?_)); conv => whnf)
  (refine ⟨fun h1 => ?_, fun h1 => ?_⟩ <;> rw [h1])
  · ((repeat ((conv => whnf); first | refine brT ?_ | refine brF ?_)); conv => whnf)
    refine fin ?_
    simp [hV, h, kinB, h1]
  ((repeat ((conv => whnf); first | refine brT ?_ | refine brF ?_)); conv => whnf)
  (refine ⟨fun h2 => ?_, fun h2 => ?_⟩ <;> rw [h2])
  · ((repeat ((conv => whnf); first | refine brT ?_ | refine brF ?_)); conv => whnf)
    refine fin ?_
    simp [hV, h, kinB, h1, h2]
  ((repeat ((conv => whnf); first | refine brT ?_ | refine brF ?_)); conv => whnf)
  (refine ⟨fun h5 => ?_, fun h5 => ?_⟩ <;> rw [h5])
  · ((repeat ((conv => whnf); first | refine brT ?_ | refine brF ?_)); conv => whnf)
    (refine ⟨fun h9 => ?_, fun h9 => ?_⟩ <;> rw [h9])
    · ((repeat ((conv => whnf); first | refine brT ?_ | refine brF ?_)); conv => whnf)
      refine fin ?_
      simp [hV, h, kinB, h1, h2, h5, h9]
    · ((repeat ((conv => whnf); first | refine brT ?_ | refine brF ?_)); conv => whnf)
      refine fin ?_
      simp [hV, h, kinB, h1, h2, h5, h9]
  have h6 : eqI s.a 6 = true := by simpa [h1, h2, h5] using hk
  ((repeat ((conv => whnf); first | refine brT ?_ | refine brF ?_)); conv => whnf)
  rw [h6]
  ((repeat ((conv => whnf); first | refine brT ?_ | refine brF ?_)); conv => whnf)
  (refine ⟨fun h9 => ?_, fun h9 => ?_⟩ <;> rw [h9])
  · ((repeat ((conv => whnf); first | refine brT ?_ | refine brF ?_)); conv => whnf)
    refine fin ?_
    simp [hV, h, kinB, h1, h2, h5, h6, h9]
  · ((repeat ((conv => whnf); first | refine brT ?_ | refine brF ?_)); conv => whnf)
    refine fin ?_
    simp [hV, h, kinB, h1, h2, h5, h6, h9]
end Go.Proofs.Ytdhmnojnkgmmnaa

namespace Go.Proofs.Ytdhmnojnkgmmnaa
open Go.Lg
set_option maxHeartbeats 6400000
set_option maxRecDepth 10000
set_option linter.unusedVariables false
set_option linter.unusedSimpArgs false

theorem l3Leads_wed7 (ps : List Per) (us : List Uni) (s : Pr) (a b : Nat) (ha : a < ps.length) (hb : b < ps.length) (h : eqI ps[b].sex (sxOf s.a) = true) (h1 : eqI s.a 1 = false) (h2 : eqI s.a 2 = false) (h5 : eqI s.a 5 = false) (h6 : eqI s.a 6 = false) (h7 : eqI s.a 7 = true) :
    FSpec env.P 237 [famLV ps us, s.lv, .int .i64 (a : Int), .int .i64 (b : Int)] (.bool (l3P ps us s a b)) := by
  have hV : l3P ps us s a b = (eqI ps[b].sex (sxOf s.a) && kinB ps us s.a s.b ps[a] ps[b] a b) := by simp [l3P, ha, hb]
  refine FSpec_of_code env_ok (fn := Try.f237) Try.func237 rfl Try.call237 _ _ ?_
  ((repeat ((conv => whnf); first | refine brT ?_ | refine brF ?_)); conv => whnf)
  refine ⟨a, ps[a].lv, rfl, by simp [ha], rfl, ?_⟩
  ((repeat ((conv => whnf); first | refine brT ?_ | refine brF ?_)); conv => whnf)
  refine ⟨b, ps[b].lv, rfl, by simp [hb], rfl, ?_⟩
  ((repeat ((conv => whnf); first | refine brT ?_ | refine brF ?_)); conv => whnf)
  refine ⟨true, by kernel_rfl, ?_⟩
  ((repeat ((conv => whnf); first | refine brT ?_ | refine brF ?_)); conv => whnf)
  refine ⟨_, l3Sex_spec _, ?_⟩
  ((repeat ((conv => whnf); first | refine brT ?_ | refine brF ?_)); conv => whnf)
  rw [h, show notB true = false by simp [notB]]
  ((repeat ((conv => whnf); first | refine brT ?_ | refine brF ?_)); conv => whnf)
  rw [h1]
  ((repeat ((conv => whnf); first | refine brT ?_ | refine brF ?_)); conv => whnf)
  rw [h2]
  ((repeat ((conv => whnf); first | refine brT ?_ | refine brF ?_)); conv => whnf)
  rw [h5]
  ((repeat ((conv => whnf); first | refine brT ?_ | refine brF ?_)); conv => whnf)
  rw [h6]
  ((repeat ((conv => whnf); first | refine brT ?_ | refine brF ?_)); conv => whnf)
  rw [h7]
  have HK : (eqI ps[b].sex (sxOf s.a) && kinB ps us s.a s.b ps[a] ps[b] a b) = us.any (wedB a b) := by simp [h, kinB, h1, h2, h5, h6, h7]
  ((repeat ((conv => whnf); first | refine brT ?_ | refine brF ?_)); conv => whnf)
  intro hm
  have hm' : us.length ≤ Go.maxLen := by simpa using hm
  rw [show (List.map Uni.lv us).length = us.length by simp]
  ((repeat ((conv => whnf); first | refine brT ?_ | refine brF ?_)); conv => whnf)
  refine loop_rule (α := Nat) (fun k => [(64, .int .i64 (k : Int))]) (fun k => [.box (famLV ps us), .box s.lv, .box ps[a].lv, .box ps[b].lv]) (fun k => us.length - k) (fun k => k ≤ us.length ∧ (us.take k).any (wedB a b) = false) 0 ⟨Nat.zero_le _, rfl⟩ ?_ ?_
  · refine ⟨?_, ⟨rfl, rfl, rfl, rfl, trivial⟩, rfl, rfl⟩
    ((repeat ((conv => whnf); refine ⟨rfl, ?_⟩)); trivial)
  rintro k ⟨hk, hno⟩
  ((repeat ((conv => whnf); first | refine brT ?_ | refine brF ?_)); conv => whnf)
  (refine ⟨fun q => ?_, fun q => ?_⟩ <;> rw [q])
  · have hlt : k < us.length := by rw [ltI_t] at q; omega
    have e1 : LV.int .i64 (IntKind.i64.wrap ((k : Int) + 1)) = LV.int .i64 ((k + 1 : Nat) : Int) := step_i hlt hm'
    have hO := l1Other_spec us[k] (a : Int)
    have hyes : wedB a b us[k] = true → us.any (wedB a b) = true := fun hw => List.any_eq_true.2 ⟨us[k], by simp, hw⟩
    have hstep : wedB a b us[k] = false → (us.take (k + 1)).any (wedB a b) = false := fun hw => by rw [List.take_succ_eq_append_getElem hlt, List.any_append, hno]; simp [hw]
    ((repeat ((conv => whnf); first | refine brT ?_ | refine brF ?_)); conv => whnf)
    refine ⟨k, us[k].lv, rfl, by simp [hlt], rfl, ?_⟩
    ((repeat ((conv => whnf); first | refine brT ?_ | refine brF ?_)); conv => whnf)
    cases he : eqI us[k].husband (a : Int)
    · rw [he] at hO
      refine ⟨_, hO, ?_⟩
      ((repeat ((conv => whnf); first | refine brT ?_ | refine brF ?_)); conv => whnf)
      (refine ⟨fun q1 => ?_, fun q1 => ?_⟩ <;> rw [q1])
      · ((repeat ((conv => whnf); first | refine brT ?_ | refine brF ?_)); conv => whnf)
        (refine ⟨fun q2 => ?_, fun q2 => ?_⟩ <;> rw [q2])
        · ((repeat ((conv => whnf); first | refine brT ?_ | refine brF ?_)); conv => whnf)
          refine fin ?_
          rw [hV, HK, hyes (by simp [wedB, he, q1, q2])]
        · ((repeat ((conv => whnf); first | refine brT ?_ | refine brF ?_)); conv => whnf)
          refine round_end (k + 1) ⟨hlt, hstep (by simp [wedB, he, q1, q2])⟩ (by show us.length - (k + 1) < us.length - k; omega) ⟨?_, ⟨rfl, rfl, rfl, rfl, trivial⟩, rfl, rfl⟩
          ((repeat ((conv => whnf); first | refine ⟨e1, ?_⟩ | refine ⟨rfl, ?_⟩)); trivial)
      · ((repeat ((conv => whnf); first | refine brT ?_ | refine brF ?_)); conv => whnf)
        refine round_end (k + 1) ⟨hlt, hstep (by simp [wedB, he, q1])⟩ (by show us.length - (k + 1) < us.length - k; omega) ⟨?_, ⟨rfl, rfl, rfl, rfl, trivial⟩, rfl, rfl⟩
        ((repeat ((conv => whnf); first | refine ⟨e1, ?_⟩ | refine ⟨rfl, ?_⟩)); trivial)
    · rw [he] at hO
      refine ⟨_, hO, ?_⟩
      ((repeat ((conv => whnf); first | refine brT ?_ | refine brF ?_)); conv => whnf)
      (refine ⟨fun q2 => ?_, fun q2 => ?_⟩ <;> rw [q2])
      · ((repeat ((conv => whnf); first | refine brT ?_ | refine brF ?_)); conv => whnf)
        refine fin ?_
        rw [hV, HK, hyes (by simp [wedB, he, q2])]
      · ((repeat ((conv => whnf); first | refine brT ?_ | refine brF ?_)); conv => whnf)
        refine round_end (k + 1) ⟨hlt, hstep (by simp [wedB, he, q2])⟩ (by show us.length - (k + 1) < us.length - k; omega) ⟨?_, ⟨rfl, rfl, rfl, rfl, trivial⟩, rfl, rfl⟩
        ((repeat ((conv => whnf); first | refine ⟨e1, ?_⟩ | refine ⟨rfl, ?_⟩)); trivial)
  · have h3 : k = us.length := by rw [ltI_f] at q; omega
    subst h3
    rw [List.take_length] at hno
    ((repeat ((conv => whnf); first | refine brT ?_ | refine brF ?_)); conv => whnf)
    refine fin ?_
    rw [hV, HK, hno]
end Go.Proofs.Ytdhmnojnkgmmnaa

namespace Go.Proofs.Ytdhmnojnkgmmnaa
open Go.Lg
set_option maxHeartbeats 6400000
set_option maxRecDepth 10000
set_option linter.unusedVariables false
set_option linter.unusedSimpArgs false

theorem l3Leads_wed8 (ps : List Per) (us : List Uni) (s : Pr) (a b : Nat) (ha : a < ps.length) (hb : b < ps.length) (h : eqI ps[b].sex (sxOf s.a) = true) (h1 : eqI s.a 1 = false) (h2 : eqI s.a 2 = false) (h5 : eqI s.a 5 = false) (h6 : eqI s.a 6 = false) (h7 : eqI s.a 7 = false) (h8 : eqI s.a 8 = true) :
    FSpec env.P 237 [famLV ps us, s.lv, .int .i64 (a : Int), .int .i64 (b : Int)] (.bool (l3P ps us s a b)) := by
  have hV : l3P ps us s a b = (eqI ps[b].sex (sxOf s.a) && kinB ps us s.a s.b ps[a] ps[b] a b) := by simp [l3P, ha, hb]
  refine FSpec_of_code env_ok (fn := Try.f237) Try.func237 rfl Try.call237 _ _ ?_
  ((repeat ((conv => whnf); first | refine brT ?_ | refine brF ?_)); conv => whnf)
  refine ⟨a, ps[a].lv, rfl, by simp [ha], rfl, ?_⟩
  ((repeat ((conv => whnf); first | refine brT ?_ | refine brF ?_)); conv => whnf)
  refine ⟨b, ps[b].lv, rfl, by simp [hb], rfl, ?_⟩
  ((repeat ((conv => whnf); first | refine brT ?_ | refine brF ?_)); conv => whnf)
  refine ⟨true, by kernel_rfl, ?_⟩
  ((repeat ((conv => whnf); first | refine brT ?_ | refine brF ?_)); conv => whnf)
  refine ⟨_, l3Sex_spec _, ?_⟩
  ((repeat ((conv => whnf); first | refine brT ?_ | refine brF ?_)); conv => whnf)
  rw [h, show notB true = false by simp [notB]]
  ((repeat ((conv => whnf); first | refine brT ?_ | refine brF ?_)); conv => whnf)
  rw [h1]
  ((repeat ((conv => whnf); first | refine brT ?_ | refine brF ?_)); conv => whnf)
  rw [h2]
  ((repeat ((conv => whnf); first | refine brT ?_ | refine brF ?_)); conv => whnf)
  rw [h5]
  ((repeat ((conv => whnf); first | refine brT ?_ | refine brF ?_)); conv => whnf)
  rw [h6]
  ((repeat ((conv => whnf); first | refine brT ?_ | refine brF ?_)); conv => whnf)
  rw [h7]
  ((repeat ((conv => whnf); first | refine brT ?_ | refine brF ?_)); conv => whnf)
  rw [h8]
  have HK : (eqI ps[b].sex (sxOf s.a) && kinB ps us s.a s.b ps[a] ps[b] a b) = us.any (wedB a b) := by simp [h, kinB, h1, h2, h5, h6, h7, h8]
  ((repeat ((conv => whnf); first | refine brT ?_ | refine brF ?_)); conv => whnf)
  intro hm
  have hm' : us.length ≤ Go.maxLen := by simpa using hm
  rw [show (List.map Uni.lv us).length = us.length by simp]
  ((repeat ((conv => whnf); first | refine brT ?_ | refine brF ?_)); conv => whnf)
  refine loop_rule (α := Nat) (fun k => [(64, .int .i64 (k : Int))]) (fun k => [.box (famLV ps us), .box s.lv, .box ps[a].lv, .box ps[b].lv]) (fun k => us.length - k) (fun k => k ≤ us.length ∧ (us.take k).any (wedB a b) = false) 0 ⟨Nat.zero_le _, rfl⟩ ?_ ?_
  · refine ⟨?_, ⟨rfl, rfl, rfl, rfl, trivial⟩, rfl, rfl⟩
    ((repeat ((conv => whnf); refine ⟨rfl, ?_⟩)); trivial)
  rintro k ⟨hk, hno⟩
  ((repeat ((conv => whnf); first | refine brT ?_ | refine brF ?_)); conv => whnf)
  (refine ⟨fun q => ?_, fun q => ?_⟩ <;> rw [q])
  · have hlt : k < us.length := by rw [ltI_t] at q; omega
    have e1 : LV.int .i64 (IntKind.i64.wrap ((k : Int) + 1)) = LV.int .i64 ((k + 1 : Nat) : Int) := step_i hlt hm'
    have hO := l1Other_spec us[k] (a : Int)
    have hyes : wedB a b us[k] = true → us.any (wedB a b) = true := fun hw => List.any_eq_true.2 ⟨us[k], by simp, hw⟩
    have hstep : wedB a b us[k] = false → (us.take (k + 1)).any (wedB a b) = false := fun hw => by rw [List.take_succ_eq_append_getElem hlt, List.any_append, hno]; simp [hw]
    ((repeat ((conv => whnf); first | refine brT ?_ | refine brF ?_)); conv => whnf)
    refine ⟨k, us[k].lv, rfl, by simp [hlt], rfl, ?_⟩
    ((repeat ((conv => whnf); first | refine brT ?_ | refine brF ?_)); conv => whnf)
    cases he : eqI us[k].husband (a : Int)
    · rw [he] at hO
      refine ⟨_, hO, ?_⟩
      ((repeat ((conv => whnf); first | refine brT ?_ | refine brF ?_)); conv => whnf)
      (refine ⟨fun q1 => ?_, fun q1 => ?_⟩ <;> rw [q1])
      · ((repeat ((conv => whnf); first | refine brT ?_ | refine brF ?_)); conv => whnf)
        (refine ⟨fun q2 => ?_, fun q2 => ?_⟩ <;> rw [q2])
        · ((repeat ((conv => whnf); first | refine brT ?_ | refine brF ?_)); conv => whnf)
          refine fin ?_
          rw [hV, HK, hyes (by simp [wedB, he, q1, q2])]
        · ((repeat ((conv => whnf); first | refine brT ?_ | refine brF ?_)); conv => whnf)
          refine round_end (k + 1) ⟨hlt, hstep (by simp [wedB, he, q1, q2])⟩ (by show us.length - (k + 1) < us.length - k; omega) ⟨?_, ⟨rfl, rfl, rfl, rfl, trivial⟩, rfl, rfl⟩
          ((repeat ((conv => whnf); first | refine ⟨e1, ?_⟩ | refine ⟨rfl, ?_⟩)); trivial)
      · ((repeat ((conv => whnf); first | refine brT ?_ | refine brF ?_)); conv => whnf)
        refine round_end (k + 1) ⟨hlt, hstep (by simp [wedB, he, q1])⟩ (by show us.length - (k + 1) < us.length - k; omega) ⟨?_, ⟨rfl, rfl, rfl, rfl, trivial⟩, rfl, rfl⟩
        ((repeat ((conv => whnf); first | refine ⟨e1, ?_⟩ | refine ⟨rfl, ?_⟩)); trivial)
    · rw [he] at hO
      refine ⟨_, hO, ?_⟩
      ((repeat ((conv => whnf); first | refine brT ?_ | refine brF ?_)); conv => whnf)
      (refine ⟨fun q2 => ?_, fun q2 => ?_⟩ <;> rw [q2])
      · ((repeat ((conv => whnf); first | refine brT ?_ | refine brF ?_)); conv => whnf)
        refine fin ?_
        rw [hV, HK, hyes (by simp [wedB, he, q2])]
      · ((repeat ((conv => whnf); first | refine brT ?_ | refine brF ?_)); conv => whnf)
        refine round_end (k + 1) ⟨hlt, hstep (by simp [wedB, he, q2])⟩ (by show us.length - (k + 1) < us.length - k; omega) ⟨?_, ⟨rfl, rfl, rfl, rfl, trivial⟩, rfl, rfl⟩
        ((repeat ((conv => whnf); first | refine ⟨e1, ?_⟩ | refine ⟨rfl, ?_⟩)); trivial)
  · have h3 : k = us.length := by rw [ltI_f] at q; omega
    subst h3
    rw [List.take_length] at hno
    ((repeat ((conv => whnf); first | refine brT ?_ | refine brF ?_)); conv => whnf)
    refine fin ?_
    rw [hV, HK, hno]
end Go.Proofs.Ytdhmnojnkgmmnaa

namespace Go.Proofs.Ytdhmnojnkgmmnaa
open Go.Lg
set_option maxHeartbeats 6400000
set_option maxRecDepth 10000
set_option linter.unusedVariables false
set_option linter.unusedSimpArgs false

theorem l3Leads_sib (ps : List Per) (us : List Uni) (s : Pr) (a b : Nat) (ha : a < ps.length) (hb : b < ps.length) (h : eqI ps[b].sex (sxOf s.a) = true) (h1 : eqI s.a 1 = false) (h2 : eqI s.a 2 = false) (h5 : eqI s.a 5 = false) (h6 : eqI s.a 6 = false) (h7 : eqI s.a 7 = false) (h8 : eqI s.a 8 = false) :
    FSpec env.P 237 [famLV ps us, s.lv, .int .i64 (a : Int), .int .i64 (b : Int)] (.bool (l3P ps us s a b)) := by
  have hV : l3P ps us s a b = (eqI ps[b].sex (sxOf s.a) && kinB ps us s.a s.b ps[a] ps[b] a b) := by simp [l3P, ha, hb]
  refine FSpec_of_code env_ok (fn := Try.f237) Try.func237 rfl Try.call237 _ _ ?_
  ((repeat ((conv => whnf); first | refine brT ?_ | refine brF ?_)); conv => whnf)
  refine ⟨a, ps[a].lv, rfl, by simp [ha], rfl, ?_⟩
  ((repeat ((conv => whnf); first | refine brT ?_ | refine brF ?_)); conv => whnf)
  refine ⟨b, ps[b].lv, rfl, by simp [hb], rfl, ?_⟩
  ((repeat ((conv => whnf); first | refine brT ?_ | refine brF ?_)); conv => whnf)
  refine ⟨true, by kernel_rfl, ?_⟩
  ((repeat ((conv => whnf); first | refine brT ?_ | refine brF ?_)); conv => whnf)
  refine ⟨_, l3Sex_spec _, ?_⟩
  ((repeat ((conv => whnf); first | refine brT ?_ | refine brF ?_)); conv => whnf)
  rw [h, show notB true = false by simp [notB]]
  ((repeat ((conv => whnf); first | refine brT ?_ | refine brF ?_)); conv => whnf)
  rw [h1]
  ((repeat ((conv => whnf); first | refine brT ?_ | refine brF ?_)); conv => whnf)
  rw [h2]
  ((repeat ((conv => whnf); first | refine brT ?_ | refine brF ?_)); conv => whnf)
  rw [h5]
  ((repeat ((conv => whnf); first | refine brT ?_ | refine brF ?_)); conv => whnf)
  rw [h6]
  ((repeat ((conv => whnf); first | refine brT ?_ | refine brF ?_)); conv => whnf)
  rw [h7]
  ((repeat ((conv => whnf); first | refine brT ?_ | refine brF ?_)); conv => whnf)
  rw [h8]
  ((repeat ((conv => whnf); first | refine brT ?_ | refine brF ?_)); conv => whnf)
  have HK : (eqI ps[b].sex (sxOf s.a) && kinB ps us s.a s.b ps[a] ps[b] a b) = (ageB ps s.b a b && fullB ps[a] ps[b] a b) := by simp [h, kinB, h1, h2, h5, h6, h7, h8]
  rw [hV, HK]
  ((repeat' (((repeat ((conv => whnf); first | refine brT ?_ | refine brF ?_)); conv => whnf); first | (refine And.intro ?_ ?_ <;> (intro h; rw [h]; revert h; intro _)) | (refine Exists.intro true (And.intro (a := drawB _ _ = true) (by kernel_rfl) ?_)) | (refine Exists.intro _ (And.intro (l1Elder_spec ps us (b : Int) (a : Int) (by omega) (by simpa using hb) (by omega) (by simpa using ha)) ?_)) | (refine Exists.intro _ (And.intro (l1Elder_spec ps us (a : Int) (b : Int) (by omega) (by simpa using ha) (by omega) (by simpa using hb)) ?_)) | (refine Exists.intro _ (And.intro (l1Full_spec ps us a b ha hb) ?_)))); all_goals ((repeat ((conv => whnf); first | refine brT ?_ | refine brF ?_)); conv => whnf))
  all_goals (refine fin ?_; clear HK hV; unfold ageB; simp only [notB_d] at *; simp_all)
end Go.Proofs.Ytdhmnojnkgmmnaa

namespace Go.Proofs.Ytdhmnojnkgmmnaa
open Go.Lg
set_option maxHeartbeats 6400000
set_option maxRecDepth 10000
set_option linter.unusedVariables false
set_option linter.unusedSimpArgs false

theorem l3Leads_spec (ps : List Per) (us : List Uni) (s : Pr) (a b : Nat) (ha : a < ps.length) (hb : b < ps.length) :
    FSpec env.P 237 [famLV ps us, s.lv, .int .i64 (a : Int), .int .i64 (b : Int)] (.bool (l3P ps us s a b)) := by
  cases h : eqI ps[b].sex (sxOf s.a)
  · exact l3Leads_no ps us s a b ha hb h
  cases h1 : eqI s.a 1
  rotate_left
  · exact l3Leads_kin ps us s a b ha hb h (by simp [h1])
  cases h2 : eqI s.a 2
  rotate_left
  · exact l3Leads_kin ps us s a b ha hb h (by simp [h2])
  cases h5 : eqI s.a 5
  rotate_left
  · exact l3Leads_kin ps us s a b ha hb h (by simp [h5])
  cases h6 : eqI s.a 6
  rotate_left
  · exact l3Leads_kin ps us s a b ha hb h (by simp [h6])
  cases h7 : eqI s.a 7
  rotate_left
  · exact l3Leads_wed7 ps us s a b ha hb h h1 h2 h5 h6 h7
  cases h8 : eqI s.a 8
  rotate_left
  · exact l3Leads_wed8 ps us s a b ha hb h h1 h2 h5 h6 h7 h8
  · exact l3Leads_sib ps us s a b ha hb h h1 h2 h5 h6 h7 h8
end Go.Proofs.Ytdhmnojnkgmmnaa

namespace Go.Proofs.Ytdhmnojnkgmmnaa
open Go.Lg
set_option maxHeartbeats 3200000
set_option maxRecDepth 10000
set_option linter.unusedVariables false
set_option linter.unusedSimpArgs false

/-- The relation of a step; nothing if the family or the step is not valid. -/
def stepN (ps : List Per) (us : List Uni) (s : Pr) : Nat := match famOk ps us && stepB s.a s.b 0 with | true => ps.length | false => 0
end Go.Proofs.Ytdhmnojnkgmmnaa