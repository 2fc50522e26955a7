/- Contracts of functions of the program and of its model, told over readings. -/
import Derived.Test.YtdhmnojnkgmmnaaCWGC
import Derived.Test.YtdhmnojnkgmmnaaCWGB
import Derived.Test.YtdhmnojnkgmmnaaCLgMF
import Derived.Test.YtdhmnojnkgmmnaaCWGA
namespace Go.Proofs.Ytdhmnojnkgmmnaa
open Go.Lg
set_option maxHeartbeats 800000
set_option maxRecDepth 10000
set_option linter.unusedVariables false
set_option linter.unusedSimpArgs false

/-! UnionEnd -/
/-- The union's two persons are of the family. -/
structure UniIn (ps : List Per) (u : Uni) : Prop where
  m0 : 0 ≤ u.husband
  ml : u.husband.toNat < ps.length
  w0 : 0 ≤ u.wife
  wl : u.wife.toNat < ps.length
/-- Years are years. -/
structure UniYears (ps : List Per) (u : Uni) (h : UniIn ps u) : Prop where
  t : u.till = -1 ∨ 0 ≤ u.till
  m : (ps[u.husband.toNat]'h.ml).died = -1 ∨ 0 ≤ (ps[u.husband.toNat]'h.ml).died
  w : (ps[u.wife.toNat]'h.wl).died = -1 ∨ 0 ≤ (ps[u.wife.toNat]'h.wl).died

theorem uni_of {ps : List Per} {us : List Uni} (h : famOk ps us = true) {k : Nat} (hk : k < us.length) : ∃ h : UniIn ps us[k], UniYears ps us[k] h := by
  obtain ⟨_, _, hp, hu, _⟩ := famOk_parts h
  have hok : unionOk ps (us.take k) us[k] = true := by
    cases e : unionOk ps (us.take k) us[k] with
    | true => rfl
    | false => rw [unionsTo_no hk hk e] at hu; cases hu
  unfold unionOk at hok
  simp only [Bool.and_eq_true] at hok
  obtain ⟨⟨h1, h2⟩, ⟨h3, h4⟩, h5, h6⟩ := hok
  obtain ⟨m0, ml, _⟩ := ofSex_lt h1
  obtain ⟨w0, wl, _⟩ := ofSex_lt h2
  refine ⟨⟨m0, ml, w0, wl⟩, ?_⟩
  have pm := personOk_spec (personsTo_get hp ml ml)
  have pw := personOk_spec (personsTo_get hp wl wl)
  unfold bothFit at h6
  rw [List.getElem?_eq_getElem ml, List.getElem?_eq_getElem wl] at h6
  simp only [fits, Bool.and_eq_true, leI_t] at h6
  unfold endYear at h4
  simp only [Bool.or_eq_true, Bool.and_eq_true, eqI_t, leI_t] at h4
  refine ⟨?_, ?_, ?_⟩
  · omega
  · omega
  · omega

end Go.Proofs.Ytdhmnojnkgmmnaa

namespace Go.Proofs.Ytdhmnojnkgmmnaa
open Go.Lg Go.Pm
set_option maxHeartbeats 3200000
set_option maxRecDepth 10000
set_option linter.unusedVariables false
set_option linter.unusedSimpArgs false

/-! ### Exogamy -/
theorem ints_at {g : List Int} {x : Int} (h0 : 0 ≤ x) (hx : x.toNat < g.length) : (g.map intLV)[x.toNat]? = some (intLV (g.getD x.toNat 0)) := by
  rw [List.getElem?_map, List.getElem?_eq_getElem hx, List.getD_eq_getElem?_getD, List.getElem?_eq_getElem hx]; rfl
theorem uni_in {ps : List Per} {us : List Uni} {g : List Int} (hf : famOk ps us = true) (hg : g.length = ps.length) : ∀ u ∈ us, (0 ≤ u.husband ∧ u.husband.toNat < g.length) ∧ (0 ≤ u.wife ∧ u.wife.toNat < g.length) := fun u hu => by
  obtain ⟨k, hk, rfl⟩ := List.mem_iff_getElem.1 hu
  obtain ⟨h, _⟩ := uni_of hf hk
  exact ⟨⟨h.m0, by rw [hg]; exact h.ml⟩, ⟨h.w0, by rw [hg]; exact h.wl⟩⟩
end Go.Proofs.Ytdhmnojnkgmmnaa


namespace Go.Proofs.Ytdhmnojnkgmmnaa
open Go.Lg Go.Pm
set_option maxHeartbeats 6400000
set_option maxRecDepth 10000
set_option linter.unusedVariables false
set_option linter.unusedSimpArgs false

/-! ### Classes that are given -/
def inCl (lo : Int) (n : Nat) (x : Int) : Bool := leI lo x && ltI x (n : Int)
def givB (ps : List Per) (us : List Uni) (w c g : List Int) (lo : Int) : Bool := famOk ps us && (clsB w c && (eqI (g.length : Int) (ps.length : Int) && g.all (inCl lo w.length)))
theorem given1_spec (w c : List Int) (lo x : Int) : FSpec env.P 212 [.int .i64 x, .ref (.int .i64 lo), .ref (clsLV w c)] (.bool (notB (inCl lo w.length x))) := by
  refine FSpec_of_code env_ok (fn := Try.f212) Try.func212 rfl Try.call212 _ _ ?_
  have hW : (w.map intLV).length = w.length := List.length_map ..
  ((repeat ((conv => whnf); first | refine brT ?_ | refine brF ?_)); conv => whnf)
  (refine ⟨fun h1 => ?_, fun h1 => ?_⟩ <;> rw [h1])
  · ((repeat ((conv => whnf); first | refine brT ?_ | refine brF ?_)); conv => whnf)
    refine fin ?_
    rw [ltI_t] at h1
    rw [show inCl lo w.length x = false by unfold inCl; rw [show leI lo x = false by rw [leI_f]; omega]; rfl]
    simp [notB]
  · ((repeat ((conv => whnf); first | refine brT ?_ | refine brF ?_)); conv => whnf)
    intro _
    rw [hW]
    ((repeat ((conv => whnf); first | refine brT ?_ | refine brF ?_)); conv => whnf)
    refine fin ?_
    rw [ltI_f] at h1
    unfold inCl
    rw [show leI lo x = true by rw [leI_t]; omega, Bool.true_and]
    cases h : ltI x (w.length : Int)
    · rw [ltI_f] at h
      rw [show leI (w.length : Int) x = true by rw [leI_t]; omega]; simp [notB]
    · rw [ltI_t] at h
      rw [show leI (w.length : Int) x = false by rw [leI_f]; omega]; simp [notB]
theorem indexGiv (F : Nat) (y z : LV) (q : Int → Bool) (xs : List Int) (hF : ∀ x, FSpec env.P F [.int .i64 x, .ref y, .ref z] (.bool (q x))) :
    FSpec env.P 267 [rowSl xs, .clos F [.ref y, .ref z]] (.int .i64 (idxFrom q 0 xs)) := by
  refine FSpec_of_code env_ok (fn := Try.f267) Try.func267 rfl Try.call267 _ _ ?_
  ((repeat ((conv => whnf); first | refine brT ?_ | refine brF ?_)); conv => whnf)
  intro hp
  have hp' : xs.length ≤ Go.maxLen := by simpa using hp
  ((repeat ((conv => whnf); first | refine brT ?_ | refine brF ?_)); conv => whnf)
  refine loop_rule (α := Nat) (fun k => [(8, .int .i64 (k : Int))]) (fun k => []) (fun k => xs.length - k) (fun k => k ≤ xs.length ∧ idxFrom q k (xs.drop k) = idxFrom q 0 xs) 0 ⟨Nat.zero_le _, rfl⟩ ?_ ?_
  · refine ⟨?_, trivial, rfl, rfl⟩
    ((repeat ((conv => whnf); refine ⟨rfl, ?_⟩)); trivial)
  rintro k ⟨hk, hf⟩
  ((repeat ((conv => whnf); first | refine brT ?_ | refine brF ?_)); conv => whnf)
  (refine ⟨fun h1 => ?_, fun h1 => ?_⟩ <;> rw [h1])
  · have hlt : k < xs.length := by rw [ltI_t] at h1; simp at h1; omega
    rw [List.drop_eq_getElem_cons hlt] at hf
    simp only [idxFrom] at hf
    ((repeat ((conv => whnf); first | refine brT ?_ | refine brF ?_)); conv => whnf)
    refine ⟨k, intLV xs[k], rfl, by simp [hlt], rfl, ?_⟩
    ((repeat ((conv => whnf); first | refine brT ?_ | refine brF ?_)); conv => whnf)
    refine ⟨_, hF xs[k], ?_⟩
    ((repeat ((conv => whnf); first | refine brT ?_ | refine brF ?_)); conv => whnf)
    (refine ⟨fun h2 => ?_, fun h2 => ?_⟩ <;> rw [h2])
    · rw [h2] at hf
      ((repeat ((conv => whnf); first | refine brT ?_ | refine brF ?_)); conv => whnf)
      exact ⟨rfl, by rw [← hf], List.nodup_nil⟩
    · rw [h2] at hf
      ((repeat ((conv => whnf); first | refine brT ?_ | refine brF ?_)); conv => whnf)
      refine round_end (k + 1) ⟨hlt, hf⟩ (by omega) ⟨?_, trivial, rfl, rfl⟩
      have e := step_i hlt hp'
      ((repeat ((conv => whnf); first | refine ⟨e, ?_⟩ | refine ⟨rfl, ?_⟩)); trivial)
  · have h3 : xs.length ≤ k := by rw [ltI_f] at h1; simp at h1; omega
    rw [List.drop_eq_nil_of_le h3] at hf
    ((repeat ((conv => whnf); first | refine brT ?_ | refine brF ?_)); conv => whnf)
    exact ⟨rfl, by rw [← hf]; rfl, List.nodup_nil⟩
theorem containsGiv (F : Nat) (y z : LV) (q : Int → Bool) (xs : List Int) (hF : ∀ x, FSpec env.P F [.int .i64 x, .ref y, .ref z] (.bool (q x))) :
    FSpec env.P 211 [rowSl xs, .clos F [.ref y, .ref z]] (.bool (xs.any q)) := by
  refine FSpec_of_code env_ok (fn := Try.f211) Try.func211 rfl Try.call211 _ _ ?_
  ((repeat ((conv => whnf); first | refine brT ?_ | refine brF ?_)); conv => whnf)
  refine ⟨_, indexGiv F y z q xs hF, ?_⟩
  ((repeat ((conv => whnf); first | refine brT ?_ | refine brF ?_)); conv => whnf)
  exact fin (idxFrom_ge _ _ _)
theorem any_notB {α : Type} (q : α → Bool) : ∀ xs : List α, notB (xs.any fun x => notB (q x)) = xs.all q
  | [] => by simp [notB]
  | x :: xs => by
    rw [List.any_cons, List.all_cons, ← any_notB q xs]
    cases q x <;> simp [notB]
theorem giv_impl (ps : List Per) (us : List Uni) (w c g : List Int) (lo : Int) (h1 : w.length ≤ 1048576) (h2 : c.length ≤ 1048576) :
    FSpec env.P 122 [.int .i64 lo, famLV ps us, clsLV w c, rowSl g] (.bool (givB ps us w c g lo)) := by
  refine FSpec_of_code env_ok (fn := Try.f122) Try.func122 rfl Try.call122 _ _ ?_
  have hP : (ps.map Per.lv).length = ps.length := List.length_map ..
  have hG : (g.map intLV).length = g.length := List.length_map ..
  ((repeat ((conv => whnf); first | refine brT ?_ | refine brF ?_)); conv => whnf)
  intro _
  ((repeat ((conv => whnf); first | refine brT ?_ | refine brF ?_)); conv => whnf)
  intro _
  ((repeat ((conv => whnf); first | refine brT ?_ | refine brF ?_)); conv => whnf)
  rw [hG, hP]
  cases e3 : eqI (g.length : Int) (ps.length : Int)
  · rw [show notB false = true by simp [notB]]
    ((repeat ((conv => whnf); first | refine brT ?_ | refine brF ?_)); conv => whnf)
    refine fin ?_; simp [givB, e3]
  rw [show notB true = false by simp [notB]]
  ((repeat ((conv => whnf); first | refine brT ?_ | refine brF ?_)); conv => whnf)
  refine ⟨_, isFamily_impl ps us, ?_⟩
  ((repeat ((conv => whnf); first | refine brT ?_ | refine brF ?_)); conv => whnf)
  cases e1 : famOk ps us
  · rw [show notB false = true by simp [notB]]
    ((repeat ((conv => whnf); first | refine brT ?_ | refine brF ?_)); conv => whnf)
    refine fin ?_; simp [givB, e1]
  rw [show notB true = false by simp [notB]]
  ((repeat ((conv => whnf); first | refine brT ?_ | refine brF ?_)); conv => whnf)
  refine ⟨_, isClasses_impl w c h1 h2, ?_⟩
  ((repeat ((conv => whnf); first | refine brT ?_ | refine brF ?_)); conv => whnf)
  cases e2 : clsB w c
  · rw [show notB false = true by simp [notB]]
    ((repeat ((conv => whnf); first | refine brT ?_ | refine brF ?_)); conv => whnf)
    refine fin ?_; simp [givB, e2]
  rw [show notB true = false by simp [notB]]
  ((repeat ((conv => whnf); first | refine brT ?_ | refine brF ?_)); conv => whnf)
  refine ⟨_, containsGiv _ _ _ (fun x => notB (inCl lo w.length x)) g fun x => given1_spec w c lo x, ?_⟩
  ((repeat ((conv => whnf); first | refine brT ?_ | refine brF ?_)); conv => whnf)
  refine fin ?_
  rw [any_notB]; simp [givB, e1, e2, e3]
theorem giv_spec (ps : List Per) (us : List Uni) (w c g : List Int) (lo : Int) (h1 : w.length ≤ 1048576) (h2 : c.length ≤ 1048576) :
    FSpec env.P 119 [famLV ps us, clsLV w c, rowSl g, .int .i64 lo] (.bool (givB ps us w c g lo)) := by
  refine FSpec_of_code env_ok (fn := Try.f119) Try.func119 rfl Try.call119 _ _ ?_
  have hP : (ps.map Per.lv).length = ps.length := List.length_map ..
  have hG : (g.map intLV).length = g.length := List.length_map ..
  have hW : (w.map intLV).length = w.length := List.length_map ..
  ((repeat ((conv => whnf); first | refine brT ?_ | refine brF ?_)); conv => whnf)
  refine ⟨_, isFamily_spec ps us, ?_⟩
  ((repeat ((conv => whnf); first | refine brT ?_ | refine brF ?_)); conv => whnf)
  cases e1 : famOk ps us
  · rw [show notB false = true by simp [notB]]
    ((repeat ((conv => whnf); first | refine brT ?_ | refine brF ?_)); conv => whnf)
    refine fin ?_; simp [givB, e1]
  rw [show notB true = false by simp [notB]]
  ((repeat ((conv => whnf); first | refine brT ?_ | refine brF ?_)); conv => whnf)
  refine ⟨_, isClasses_spec w c h1 h2, ?_⟩
  ((repeat ((conv => whnf); first | refine brT ?_ | refine brF ?_)); conv => whnf)
  cases e2 : clsB w c
  · rw [show notB false = true by simp [notB]]
    ((repeat ((conv => whnf); first | refine brT ?_ | refine brF ?_)); conv => whnf)
    refine fin ?_; simp [givB, e2]
  rw [show notB true = false by simp [notB]]
  ((repeat ((conv => whnf); first | refine brT ?_ | refine brF ?_)); conv => whnf)
  intro hgm
  ((repeat ((conv => whnf); first | refine brT ?_ | refine brF ?_)); conv => whnf)
  intro _
  ((repeat ((conv => whnf); first | refine brT ?_ | refine brF ?_)); conv => whnf)
  rw [hG, hP]
  cases e3 : eqI (g.length : Int) (ps.length : Int)
  · rw [show notB false = true by simp [notB]]
    ((repeat ((conv => whnf); first | refine brT ?_ | refine brF ?_)); conv => whnf)
    refine fin ?_; simp [givB, e3]
  rw [show notB true = false by simp [notB]]
  have hg' : g.length ≤ Go.maxLen := by rw [← hG]; exact hgm
  obtain ⟨n1, n8, _, _, _⟩ := clsB_at e2
  ((repeat ((conv => whnf); first | refine brT ?_ | refine brF ?_)); conv => whnf)
  intro _
  ((repeat ((conv => whnf); first | refine brT ?_ | refine brF ?_)); conv => whnf)
  refine loop_rule (α := Nat) (fun k => [(29, .int .i64 (k : Int))]) (fun k => [.box (famLV ps us), .box (clsLV w c)]) (fun k => g.length - k) (fun k => k ≤ g.length ∧ (g.drop k).all (inCl lo w.length) = g.all (inCl lo w.length)) 0 ⟨Nat.zero_le _, rfl⟩ ?_ ?_
  · refine ⟨?_, ⟨rfl, rfl, trivial⟩, rfl, rfl⟩
    ((repeat ((conv => whnf); refine ⟨rfl, ?_⟩)); trivial)
  rintro k ⟨hk, hf⟩
  ((repeat ((conv => whnf); first | refine brT ?_ | refine brF ?_)); conv => whnf)
  (refine ⟨fun g1 => ?_, fun g1 => ?_⟩ <;> rw [g1])
  · have hlt : k < g.length := by rw [ltI_t] at g1; simp at g1; omega
    rw [List.drop_eq_getElem_cons hlt, List.all_cons] at hf
    have e := step_i hlt hg'
    have ew : IntKind.i64.wrap ((w.length : Int) - 1) = (w.length : Int) - 1 := wrap64 (by omega) (by omega)
    have ei : inCl lo w.length g[k] = (leI lo g[k] && leI g[k] ((w.length : Int) - 1)) := by
      unfold inCl
      congr 1
      cases h : ltI g[k] (w.length : Int)
      · rw [ltI_f] at h; symm; rw [leI_f]; omega
      · rw [ltI_t] at h; symm; rw [leI_t]; omega
    ((repeat ((conv => whnf); first | refine brT ?_ | refine brF ?_)); conv => whnf)
    refine ⟨k, intLV g[k], rfl, by simp [hlt], rfl, ?_⟩
    ((repeat ((conv => whnf); first | refine brT ?_ | refine brF ?_)); conv => whnf)
    intro _
    ((repeat ((conv => whnf); first | refine brT ?_ | refine brF ?_)); conv => whnf)
    rw [hW, ew]
    refine ⟨_, l1In_spec g[k] lo ((w.length : Int) - 1), ?_⟩
    rw [← ei]
    ((repeat ((conv => whnf); first | refine brT ?_ | refine brF ?_)); conv => whnf)
    cases e4 : inCl lo w.length g[k]
    · rw [show notB false = true by simp [notB]]
      rw [e4, Bool.false_and] at hf
      ((repeat ((conv => whnf); first | refine brT ?_ | refine brF ?_)); conv => whnf)
      refine fin ?_; simp [givB, ← hf]
    · rw [show notB true = false by simp [notB]]
      rw [e4, Bool.true_and] at hf
      ((repeat ((conv => whnf); first | refine brT ?_ | refine brF ?_)); conv => whnf)
      refine round_end (k + 1) ⟨hlt, hf⟩ (by omega) ⟨?_, ⟨rfl, rfl, trivial⟩, rfl, rfl⟩
      ((repeat ((conv => whnf); first | refine ⟨e, ?_⟩ | refine ⟨rfl, ?_⟩)); trivial)
  · have h3 : g.length ≤ k := by rw [ltI_f] at g1; simp at g1; omega
    rw [List.drop_eq_nil_of_le h3] at hf
    ((repeat ((conv => whnf); first | refine brT ?_ | refine brF ?_)); conv => whnf)
    refine fin ?_; simp [givB, e1, e2, e3, ← hf]
end Go.Proofs.Ytdhmnojnkgmmnaa


namespace Go.Proofs.Ytdhmnojnkgmmnaa
open Go.Lg Go.Pm
set_option maxHeartbeats 6400000
set_option maxRecDepth 10000
set_option linter.unusedVariables false
set_option linter.unusedSimpArgs false

/-! ### Bonds -/
structure Bd where
  fr : Int
  to : Int
  via : List Int
def Bd.lv (b : Bd) : LV := .st [.int .i64 b.fr, .int .i64 b.to, rowSl b.via]
def zBd : LV := .st [.int .i64 0, .int .i64 0, .nil]
def bdU (w : List Int) (u : Uni) : Bd := ⟨u.husband, u.wife, w⟩
theorem bondU1_h (w : List Int) (u : Uni) : HSpec env.P 224 [u.lv, .hp 0 0 []] [.box (rowSl w)] (bdU w u).lv [.box (rowSl w)] := by
  refine HSpec_of_code (E := env.x [] 1) env_ok.x (fn := Try.f224) Try.func224 rfl Try.call224 _ _ _ _ ?_
  ((repeat ((conv => whnf); first | refine brT ?_ | refine brF ?_)); conv => whnf)
  exact ⟨[(bdU w u).lv], rfl, rfl, .inr ⟨[.old 0], ⟨rfl, rfl, trivial⟩, ⟨rfl, rfl, trivial⟩, rfl⟩⟩
theorem mapBd_h (q : List Int) (us : List Uni) (hb : us.length ≤ 1048576) :
    HSpec env.P 223 [.sl (us.map Uni.lv), .clos 224 [.hp 0 0 []]] [.box (rowSl q)] (.hs 1 ((us.map (bdU q)).map Bd.lv).length) [.box (rowSl q), .arr 125 3 ((us.map (bdU q)).map Bd.lv)] := by
  refine HSpec_of_code (E := env.x [224] 1) env_ok.x (fn := Try.f223) Try.func223 rfl Try.call223 _ _ _ _ ?_
  ((repeat ((conv => whnf); first | refine brT ?_ | refine brF ?_)); conv => whnf)
  intro hp
  have hp' : us.length ≤ Go.maxLen := by simpa using hp
  ((repeat ((conv => whnf); first | refine brT ?_ | refine brF ?_)); conv => whnf)
  refine ⟨us.length, by simp, by simp, by show 40 * us.length ≤ _; omega, hp', rfl, by decide, ?_⟩
  ((repeat ((conv => whnf); first | refine brT ?_ | refine brF ?_)); conv => whnf)
  intro _
  ((repeat ((conv => whnf); first | refine brT ?_ | refine brF ?_)); conv => whnf)
  refine loop_rule (α := Nat) (fun k => [(13, .int .i64 (k : Int))]) (fun k => [.box (rowSl q), .arr 125 3 (fillLV (fun u => (bdU q u).lv) zBd us k)]) (fun k => us.length - k) (fun k => k ≤ us.length) 0 (Nat.zero_le _) ?_ ?_
  · refine ⟨?_, ⟨rfl, by simp [fillLV, zBd], trivial⟩, rfl, rfl⟩
    ((repeat ((conv => whnf); refine ⟨rfl, ?_⟩)); trivial)
  intro k hk
  ((repeat ((conv => whnf); first | refine brT ?_ | refine brF ?_)); conv => whnf)
  (refine ⟨fun h1 => ?_, fun h1 => ?_⟩ <;> rw [h1])
  · have hlt : k < us.length := by rw [ltI_t] at h1; simp at h1; omega
    have e := step_i hlt hp'
    ((repeat ((conv => whnf); first | refine brT ?_ | refine brF ?_)); conv => whnf)
    refine ⟨k, us[k].lv, rfl, by simp [hlt], rfl, ?_⟩
    ((repeat ((conv => whnf); first | refine brT ?_ | refine brF ?_)); conv => whnf)
    refine ⟨[0], _, _, _, _, bondU1_h q us[k], rfl, rfl, rfl, trivial, ?_⟩
    ((repeat ((conv => whnf); first | refine brT ?_ | refine brF ?_)); conv => whnf)
    refine ⟨(fill_len hk).symm, rfl, k, rfl, by rw [fill_len hk]; exact hlt, ?_⟩
    ((repeat ((conv => whnf); first | refine brT ?_ | refine brF ?_)); conv => whnf)
    refine ⟨(fill_len hk).symm, k, [], zBd, rfl, by simp [getP, fill_get hlt], rfl, rfl, rfl, fillLV (fun u => (bdU q u).lv) zBd us (k + 1), by rw [fill_get hlt]; exact fill_set (lv := fun u => (bdU q u).lv) hlt, ?_⟩
    ((repeat ((conv => whnf); first | refine brT ?_ | refine brF ?_)); conv => whnf)
    refine round_end (k + 1) hlt (by omega) ⟨?_, ⟨rfl, rfl, trivial⟩, rfl, rfl⟩
    ((repeat ((conv => whnf); first | refine ⟨e, ?_⟩ | refine ⟨rfl, ?_⟩)); trivial)
  · have h4 : k = us.length := by rw [ltI_f] at h1; simp at h1; omega
    subst h4
    ((repeat ((conv => whnf); first | refine brT ?_ | refine brF ?_)); conv => whnf)
    exact ⟨[.hs 1 us.length], by simp [tupOf], rfl, .inl ⟨⟨rfl, trivial⟩, ⟨rfl, by rw [fill_all, List.map_map]; rfl, trivial⟩, rfl, rfl⟩⟩
theorem bondsOfUnions_h (ps : List Per) (us : List Uni) (q : List Int) (hb : us.length ≤ 1048576) :
    HSpec env.P 147 [famLV ps us, rowSl q] [] (.hs 0 ((us.map (bdU q)).map Bd.lv).length) [.arr 125 3 ((us.map (bdU q)).map Bd.lv)] := by
  refine HSpec_of_code (E := env.x [223] 0) env_ok.x (fn := Try.f147) Try.func147 rfl Try.call147 _ _ _ _ ?_
  ((repeat ((conv => whnf); first | refine brT ?_ | refine brF ?_)); conv => whnf)
  refine ⟨[1], _, _, _, _, mapBd_h q us hb, rfl, rfl, rfl, trivial, ?_⟩
  ((repeat ((conv => whnf); first | refine brT ?_ | refine brF ?_)); conv => whnf)
  exact ⟨[.hs 0 ((us.map (bdU q)).map Bd.lv).length], rfl, rfl, .inr ⟨[.old 2], ⟨rfl, rfl, trivial⟩, ⟨rfl, rfl, trivial⟩, rfl⟩⟩
/-- The bonds to parents of a sex. -/
def bdsTo (ps : List Per) (sx : Int) (q : List Int) : Nat → List Bd
  | 0 => []
  | k + 1 => bdsTo ps sx q k ++ (match ps[k]? with | some p => (match eqI (parS p sx) (-1) with | true => [] | false => [⟨parS p sx, (k : Int), q⟩]) | none => [])
theorem bdsTo_len (ps : List Per) (sx : Int) (q : List Int) : ∀ k, (bdsTo ps sx q k).length ≤ k
  | 0 => by simp [bdsTo]
  | k + 1 => by
    have := bdsTo_len ps sx q k
    unfold bdsTo
    rw [List.length_append]
    cases ps[k]? with
    | none => simp; omega
    | some p => cases h : eqI (parS p sx) (-1) <;> simp [h] <;> omega
theorem bdsTo_no {ps : List Per} {sx : Int} {q : List Int} {k : Nat} (h : k < ps.length) (e : eqI (parS ps[k] sx) (-1) = true) : bdsTo ps sx q k = bdsTo ps sx q (k + 1) := by
  simp [bdsTo, h, e]
theorem bdsTo_yes {ps : List Per} {sx : Int} {q : List Int} {k : Nat} (h : k < ps.length) (e : eqI (parS ps[k] sx) (-1) = false) : bdsTo ps sx q (k + 1) = bdsTo ps sx q k ++ [⟨parS ps[k] sx, (k : Int), q⟩] := by
  simp [bdsTo, h, e]
def sxJ (j : Nat) : Int := match j with | 0 => 1 | _ => 2
def toCh (w c : List Int) (j : Nat) : List Int := stpL w c 5 (sxJ j)
/-- The bonds of unions and of so many sexes. -/
def bdsJ (ps : List Per) (us : List Uni) (w c : List Int) : Nat → List Bd
  | 0 => us.map (bdU w)
  | j + 1 => bdsJ ps us w c j ++ bdsTo ps (sxJ j) (toCh w c j) ps.length
theorem bdsJ_len (ps : List Per) (us : List Uni) (w c : List Int) : ∀ j, (bdsJ ps us w c j).length ≤ us.length + j * ps.length
  | 0 => by simp [bdsJ]
  | j + 1 => by
    have := bdsJ_len ps us w c j
    have h2 := bdsTo_len ps (sxJ j) (toCh w c j) ps.length
    simp only [bdsJ, List.length_append, Nat.succ_mul]; omega
def bdRow (ps : List Per) (us : List Uni) (w c : List Int) (j i : Nat) : List LV := (bdsJ ps us w c j ++ bdsTo ps (sxJ j) (toCh w c j) i).map Bd.lv
theorem bdRow_len (ps : List Per) (us : List Uni) (w c : List Int) {j i : Nat} (hj : j ≤ 2) (hi : i ≤ ps.length) (h1 : ps.length ≤ 40) (h2 : us.length ≤ 60) : (bdRow ps us w c j i).length ≤ 180 := by
  have k1 := bdsJ_len ps us w c j
  have k2 := bdsTo_len ps (sxJ j) (toCh w c j) i
  simp only [bdRow, List.length_map, List.length_append]
  have : j * ps.length ≤ 2 * 40 := Nat.mul_le_mul hj h1
  omega
theorem bdRow_zero (ps : List Per) (us : List Uni) (w c : List Int) (j : Nat) : bdRow ps us w c j 0 = (bdsJ ps us w c j).map Bd.lv := by simp [bdRow, bdsTo]
theorem bdRow_all (ps : List Per) (us : List Uni) (w c : List Int) (j : Nat) : bdRow ps us w c j ps.length = bdRow ps us w c (j + 1) 0 := by simp [bdRow, bdsTo, bdsJ]
theorem bonds_h (ps : List Per) (us : List Uni) (w c : List Int) (h1 : ps.length ≤ 40) (h2 : us.length ≤ 60) (hw : w.length ≤ 1048576) (hc : c.length ≤ 1048576) :
    HSpec env.P 123 [famLV ps us, clsLV w c] [] (.hs 0 ((bdsJ ps us w c 2).map Bd.lv).length) [.arr 125 3 ((bdsJ ps us w c 2).map Bd.lv)] := by
  refine HSpec_of_code (E := env.x [147] 0) env_ok.x (fn := Try.f123) Try.func123 rfl Try.call123 _ _ _ _ ?_
  ((repeat ((conv => whnf); first | refine brT ?_ | refine brF ?_)); conv => whnf)
  refine ⟨[], _, _, _, _, bondsOfUnions_h ps us w (by omega), rfl, rfl, rfl, trivial, ?_⟩
  ((repeat ((conv => whnf); first | refine brT ?_ | refine brF ?_)); conv => whnf)
  have e0 : (us.map (bdU w)).map Bd.lv = bdRow ps us w c 0 0 := by rw [bdRow_zero]; rfl
  rw [e0]
  refine ⟨rfl, fun _ => ?_⟩
  ((repeat ((conv => whnf); first | refine brT ?_ | refine brF ?_)); conv => whnf)
  refine loop_ruleR (α := Nat) [.old 0, .old 1, .old 2, .old 3] (fun j => [(18, .int .i64 (j : Int)), (5, .hs 2 (bdRow ps us w c j 0).length), (15, .undef)])
    (fun j => [.box (famLV ps us), .box (clsLV w c), .arr 125 3 (bdRow ps us w c j 0), .arr 3 1 [.int .i64 1, .int .i64 2]]) (fun j => 2 - j) (fun j => j ≤ 2) 0 (Nat.zero_le _) ?_ ?_
  · refine ⟨?_, ⟨rfl, rfl, rfl, rfl, rfl, rfl, rfl, rfl, trivial⟩, rfl⟩
    ((repeat ((conv => whnf); refine ⟨rfl, rfl, ?_⟩)); trivial)
  intro j hj
  generalize hK : kk _ = KK
  ((repeat ((conv => whnf); first | refine brT ?_ | refine brF ?_)); conv => whnf)
  (refine ⟨fun g1 => ?_, fun g1 => ?_⟩ <;> rw [g1])
  · have hlt : j < 2 := by rw [ltI_t] at g1; simp at g1; omega
    have e := step_i (n := 2) hlt (by decide)
    have hg : getP (.st [LV.int .i64 1, LV.int .i64 2]) [j] = some (.int .i64 (sxJ j)) := by
      match j, hlt with
      | 0, _ => rfl
      | 1, _ => rfl
    ((repeat ((conv => whnf); first | refine brT ?_ | refine brF ?_)); conv => whnf)
    refine ⟨rfl, rfl, j, rfl, hlt, ?_⟩
    ((repeat ((conv => whnf); first | refine brT ?_ | refine brF ?_)); conv => whnf)
    refine ⟨rfl, by simp, _, hg, rfl, ?_⟩
    ((repeat ((conv => whnf); first | refine brT ?_ | refine brF ?_)); conv => whnf)
    have hst := step_f w c ⟨5, 0⟩ (sxJ j) hw hc
    refine ⟨_, hst, ?_⟩
    ((repeat ((conv => whnf); first | refine brT ?_ | refine brF ?_)); conv => whnf)
    intro hpm
    have hp' : ps.length ≤ Go.maxLen := by simpa using hpm
    ((repeat ((conv => whnf); first | refine brT ?_ | refine brF ?_)); conv => whnf)
    refine loop_ruleR (α := Nat) [.old 0, .old 1, .old 2, .old 3] (fun i => [(29, .int .i64 (i : Int)), (5, .hs 2 (bdRow ps us w c j i).length), (15, .undef)])
      (fun i => [.box (famLV ps us), .box (clsLV w c), .arr 125 3 (bdRow ps us w c j i), .arr 3 1 [.int .i64 1, .int .i64 2]]) (fun i => ps.length - i) (fun i => i ≤ ps.length) 0 (Nat.zero_le _) ?_ ?_
    · refine ⟨?_, ⟨rfl, rfl, rfl, rfl, rfl, rfl, rfl, rfl, trivial⟩, rfl⟩
      ((repeat ((conv => whnf); refine ⟨rfl, rfl, ?_⟩)); trivial)
    intro i hi
    generalize hK2 : kk _ = KK2
    ((repeat ((conv => whnf); first | refine brT ?_ | refine brF ?_)); conv => whnf)
    (refine ⟨fun g2 => ?_, fun g2 => ?_⟩ <;> rw [g2])
    · have hli : i < ps.length := by rw [ltI_t] at g2; simp at g2; omega
      have e2 := step_i hli hp'
      ((repeat ((conv => whnf); first | refine brT ?_ | refine brF ?_)); conv => whnf)
      refine ⟨i, ps[i].lv, rfl, by simp [hli], rfl, ?_⟩
      ((repeat ((conv => whnf); first | refine brT ?_ | refine brF ?_)); conv => whnf)
      refine ⟨_, parentOfSex_spec ps[i] (sxJ j), ?_⟩
      ((repeat ((conv => whnf); first | refine brT ?_ | refine brF ?_)); conv => whnf)
      (refine ⟨fun g3 => ?_, fun g3 => ?_⟩ <;> rw [g3])
      · rw [notB_t] at g3
        have hsu : bdRow ps us w c j i ++ [LV.st [.int .i64 (parS ps[i] (sxJ j)), .int .i64 (i : Int), rowSl (stpL w c 5 (sxJ j))]] = bdRow ps us w c j (i + 1) := by
          unfold bdRow
          rw [bdsTo_yes hli g3, ← List.append_assoc, List.map_append (l₂ := [_])]; rfl
        have hbl := bdRow_len ps us w c (j := j) (i := i + 1) hj hli h1 h2
        have hl5 : LV.hs 2 (bdRow ps us w c j i ++ [LV.st [.int .i64 (parS ps[i] (sxJ j)), .int .i64 (i : Int), rowSl (stpL w c 5 (sxJ j))]]).length = LV.hs 2 (bdRow ps us w c j (i + 1)).length := by rw [hsu]
        ((repeat ((conv => whnf); first | refine brT ?_ | refine brF ?_)); conv => whnf)
        refine ⟨rfl, rfl, ?_, ?_, ?_⟩
        · show (bdRow ps us w c j i ++ [LV.st [.int .i64 (parS ps[i] (sxJ j)), .int .i64 (i : Int), rowSl (stpL w c 5 (sxJ j))]]).length ≤ _
          rw [hsu]; unfold Go.maxLen; omega
        · show (bdRow ps us w c j i ++ [LV.st [.int .i64 (parS ps[i] (sxJ j)), .int .i64 (i : Int), rowSl (stpL w c 5 (sxJ j))]]).length * _ ≤ _
          rw [hsu]; show (bdRow ps us w c j (i + 1)).length * 40 ≤ _; omega
        ((repeat ((conv => whnf); first | refine brT ?_ | refine brF ?_)); conv => whnf)
        subst hK2
        refine round_endR [.old 0, .old 1, .old 6, .old 3] (i + 1) hli (by omega) ⟨?_, ⟨rfl, rfl, rfl, rfl, rfl, congrArg (Blk.arr 125 3) hsu, rfl, rfl, trivial⟩, rfl⟩
        repeat ((conv => whnf); first | refine ⟨rfl, e2, ?_⟩ | refine ⟨rfl, hl5, ?_⟩ | refine ⟨rfl, rfl, ?_⟩)
        trivial
      · rw [notB_f] at g3
        have hsu : bdRow ps us w c j i = bdRow ps us w c j (i + 1) := by unfold bdRow; rw [bdsTo_no hli g3]
        have hl5 : LV.hs 2 (bdRow ps us w c j i).length = LV.hs 2 (bdRow ps us w c j (i + 1)).length := by rw [hsu]
        ((repeat ((conv => whnf); first | refine brT ?_ | refine brF ?_)); conv => whnf)
        subst hK2
        refine round_endR [.old 0, .old 1, .old 2, .old 3] (i + 1) hli (by omega) ⟨?_, ⟨rfl, rfl, rfl, rfl, rfl, congrArg (Blk.arr 125 3) hsu, rfl, rfl, trivial⟩, rfl⟩
        repeat ((conv => whnf); first | refine ⟨rfl, e2, ?_⟩ | refine ⟨rfl, hl5, ?_⟩ | refine ⟨rfl, rfl, ?_⟩)
        trivial
    have h4 : i = ps.length := by rw [ltI_f] at g2; simp at g2; omega
    subst h4
    subst hK2
    have hsu := bdRow_all ps us w c j
    have hl5 : LV.hs 2 (bdRow ps us w c j ps.length).length = LV.hs 2 (bdRow ps us w c (j + 1) 0).length := by rw [hsu]
    ((repeat ((conv => whnf); first | refine brT ?_ | refine brF ?_)); conv => whnf)
    subst hK
    refine round_endR [.old 0, .old 1, .old 2, .old 3] (j + 1) hlt (by omega) ⟨?_, ⟨rfl, rfl, rfl, rfl, rfl, congrArg (Blk.arr 125 3) hsu, rfl, rfl, trivial⟩, rfl⟩
    repeat ((conv => whnf); first | refine ⟨rfl, e, ?_⟩ | refine ⟨rfl, hl5, ?_⟩ | refine ⟨rfl, rfl, ?_⟩)
    trivial
  have h5 : j = 2 := by rw [ltI_f] at g1; simp at g1; omega
  subst h5
  subst hK
  rw [bdRow_zero]
  ((repeat ((conv => whnf); first | refine brT ?_ | refine brF ?_)); conv => whnf)
  exact ⟨[.hs 0 ((bdsJ ps us w c 2).map Bd.lv).length], rfl, rfl, .inr ⟨[.old 2], ⟨rfl, rfl, trivial⟩, ⟨rfl, rfl, trivial⟩, rfl⟩⟩
theorem bonds_f (ps : List Per) (us : List Uni) (w c : List Int) (h1 : ps.length ≤ 40) (h2 : us.length ≤ 60) (hw : w.length ≤ 1048576) (hc : c.length ≤ 1048576) :
    FSpec env.P 123 [famLV ps us, clsLV w c] (.own 125 3 ((bdsJ ps us w c 2).map Bd.lv)) :=
  FSpec_of_HSpec (bonds_h ps us w c h1 h2 hw hc) (by simp [exW])
end Go.Proofs.Ytdhmnojnkgmmnaa


namespace Go.Proofs.Ytdhmnojnkgmmnaa
open Go.Lg
set_option maxHeartbeats 1600000
set_option maxRecDepth 10000
set_option linter.unusedVariables false
set_option linter.unusedSimpArgs false

end Go.Proofs.Ytdhmnojnkgmmnaa

namespace Go.Proofs.Ytdhmnojnkgmmnaa
open Go.Lg
set_option maxHeartbeats 1600000
set_option maxRecDepth 10000
set_option linter.unusedVariables false
set_option linter.unusedSimpArgs false

theorem toPersonS_h (ps : List Per) (hb : 56 * ps.length ≤ 281474976710656) : HSpec env.P 107 [.sl (ps.map Per.lv)] [] (.hs 0 ps.length) [.arr 116 6 (ps.map Per.lv)] := by
  refine HSpec_of_code (E := env.x [] 0) env_ok.x (fn := Try.f107) Try.func107 rfl Try.call107 _ _ _ _ ?_
  ((repeat ((conv => whnf); first | refine brT ?_ | refine brF ?_)); conv => whnf)
  intro hp
  have hp' : ps.length ≤ Go.maxLen := by simpa using hp
  ((repeat ((conv => whnf); first | refine brT ?_ | refine brF ?_)); conv => whnf)
  refine ⟨ps.length, by simp, by simp, hb, hp', rfl, by decide, ?_⟩
  ((repeat ((conv => whnf); first | refine brT ?_ | refine brF ?_)); conv => whnf)
  refine loop_rule (α := Nat) (fun k => [(4, .int .i64 (k : Int))]) (fun k => [.arr 116 6 (fillLV Per.lv zPer ps k)]) (fun k => ps.length - k) (fun k => k ≤ ps.length) 0 (Nat.zero_le _) ?_ ?_
  · refine ⟨?_, ⟨by simp [zPer, fillLV], trivial⟩, rfl, rfl⟩
    repeat ((conv => whnf); refine ⟨rfl, ?_⟩)
    trivial
  rintro k hk
  ((repeat ((conv => whnf); first | refine brT ?_ | refine brF ?_)); conv => whnf)
  intro _
  ((repeat ((conv => whnf); first | refine brT ?_ | refine brF ?_)); conv => whnf)
  refine ⟨fun h1 => ?_, fun h1 => ?_⟩ <;> rw [h1]
  · have hlt : k < ps.length := by rw [ltI_t] at h1; simp at h1; omega
    ((repeat ((conv => whnf); first | refine brT ?_ | refine brF ?_)); conv => whnf)
    refine ⟨k, ps[k].lv, rfl, by simp [hlt], rfl, ?_⟩
    ((repeat ((conv => whnf); first | refine brT ?_ | refine brF ?_)); conv => whnf)
    refine ⟨_, toPerson_spec ps[k], ?_⟩
    ((repeat ((conv => whnf); first | refine brT ?_ | refine brF ?_)); conv => whnf)
    refine ⟨(fill_len hk).symm, rfl, k, rfl, by rw [fill_len hk]; exact hlt, ?_⟩
    ((repeat ((conv => whnf); first | refine brT ?_ | refine brF ?_)); conv => whnf)
    refine ⟨(fill_len hk).symm, k, [], zPer, rfl, by simp [getP, fill_get hlt], rfl, rfl, rfl, _, rfl, ?_⟩
    ((repeat ((conv => whnf); first | refine brT ?_ | refine brF ?_)); conv => whnf)
    refine round_end (k + 1) hlt (by omega) ⟨?_, ⟨?_, trivial⟩, rfl, rfl⟩
    · have e := step_i hlt hp'
      repeat ((conv => whnf); first | refine ⟨e, ?_⟩ | refine ⟨rfl, ?_⟩)
      trivial
    · have e3 : (match (fillLV Per.lv zPer ps k)[k]? with | some z => (fillLV Per.lv zPer ps k).set k (setP z [] ps[k].lv) | none => fillLV Per.lv zPer ps k) = fillLV Per.lv zPer ps (k + 1) := by
        rw [fill_get hlt]
        simp only [zPer, setP]
        exact fill_set hlt
      exact congrArg (Blk.arr 116 6) e3
  · have h3 : ps.length ≤ k := by rw [ltI_f] at h1; simp at h1; omega
    have h4 : k = ps.length := by omega
    subst h4
    ((repeat ((conv => whnf); first | refine brT ?_ | refine brF ?_)); conv => whnf)
    exact ⟨[.hs 0 ps.length], rfl, rfl, .inl ⟨⟨rfl, trivial⟩, ⟨congrArg (Blk.arr 116 6) fill_all, trivial⟩, rfl, rfl⟩⟩
theorem toUnionS_h (ps : List Uni) (hb : 32 * ps.length ≤ 281474976710656) : HSpec env.P 108 [.sl (ps.map Uni.lv)] [] (.hs 0 ps.length) [.arr 110 4 (ps.map Uni.lv)] := by
  refine HSpec_of_code (E := env.x [] 0) env_ok.x (fn := Try.f108) Try.func108 rfl Try.call108 _ _ _ _ ?_
  ((repeat ((conv => whnf); first | refine brT ?_ | refine brF ?_)); conv => whnf)
  intro hp
  have hp' : ps.length ≤ Go.maxLen := by simpa using hp
  ((repeat ((conv => whnf); first | refine brT ?_ | refine brF ?_)); conv => whnf)
  refine ⟨ps.length, by simp, by simp, hb, hp', rfl, by decide, ?_⟩
  ((repeat ((conv => whnf); first | refine brT ?_ | refine brF ?_)); conv => whnf)
  refine loop_rule (α := Nat) (fun k => [(4, .int .i64 (k : Int))]) (fun k => [.arr 110 4 (fillLV Uni.lv zUni ps k)]) (fun k => ps.length - k) (fun k => k ≤ ps.length) 0 (Nat.zero_le _) ?_ ?_
  · refine ⟨?_, ⟨by simp [zUni, fillLV], trivial⟩, rfl, rfl⟩
    repeat ((conv => whnf); refine ⟨rfl, ?_⟩)
    trivial
  rintro k hk
  ((repeat ((conv => whnf); first | refine brT ?_ | refine brF ?_)); conv => whnf)
  intro _
  ((repeat ((conv => whnf); first | refine brT ?_ | refine brF ?_)); conv => whnf)
  refine ⟨fun h1 => ?_, fun h1 => ?_⟩ <;> rw [h1]
  · have hlt : k < ps.length := by rw [ltI_t] at h1; simp at h1; omega
    ((repeat ((conv => whnf); first | refine brT ?_ | refine brF ?_)); conv => whnf)
    refine ⟨k, ps[k].lv, rfl, by simp [hlt], rfl, ?_⟩
    ((repeat ((conv => whnf); first | refine brT ?_ | refine brF ?_)); conv => whnf)
    refine ⟨_, toUnion_spec ps[k], ?_⟩
    ((repeat ((conv => whnf); first | refine brT ?_ | refine brF ?_)); conv => whnf)
    refine ⟨(fill_len hk).symm, rfl, k, rfl, by rw [fill_len hk]; exact hlt, ?_⟩
    ((repeat ((conv => whnf); first | refine brT ?_ | refine brF ?_)); conv => whnf)
    refine ⟨(fill_len hk).symm, k, [], zUni, rfl, by simp [getP, fill_get hlt], rfl, rfl, rfl, _, rfl, ?_⟩
    ((repeat ((conv => whnf); first | refine brT ?_ | refine brF ?_)); conv => whnf)
    refine round_end (k + 1) hlt (by omega) ⟨?_, ⟨?_, trivial⟩, rfl, rfl⟩
    · have e := step_i hlt hp'
      repeat ((conv => whnf); first | refine ⟨e, ?_⟩ | refine ⟨rfl, ?_⟩)
      trivial
    · have e3 : (match (fillLV Uni.lv zUni ps k)[k]? with | some z => (fillLV Uni.lv zUni ps k).set k (setP z [] ps[k].lv) | none => fillLV Uni.lv zUni ps k) = fillLV Uni.lv zUni ps (k + 1) := by
        rw [fill_get hlt]
        simp only [zUni, setP]
        exact fill_set hlt
      exact congrArg (Blk.arr 110 4) e3
  · have h3 : ps.length ≤ k := by rw [ltI_f] at h1; simp at h1; omega
    have h4 : k = ps.length := by omega
    subst h4
    ((repeat ((conv => whnf); first | refine brT ?_ | refine brF ?_)); conv => whnf)
    exact ⟨[.hs 0 ps.length], rfl, rfl, .inl ⟨⟨rfl, trivial⟩, ⟨congrArg (Blk.arr 110 4) fill_all, trivial⟩, rfl, rfl⟩⟩

def famHS (a b : Nat) : LV := .st [.hs 0 a, .hs 1 b]
theorem toFamily_h (ps : List Per) (us : List Uni) (hp : 56 * ps.length ≤ 281474976710656) (hu : 32 * us.length ≤ 281474976710656) :
    HSpec env.P 29 [famLV ps us] [] (famHS ps.length us.length) [.arr 116 6 (ps.map Per.lv), .arr 110 4 (us.map Uni.lv)] := by
  refine HSpec_of_code (E := env.x [107, 108] 0) env_ok.x (fn := Try.f29) Try.func29 rfl Try.call29 _ _ _ _ ?_
  ((repeat ((conv => whnf); first | refine brT ?_ | refine brF ?_)); conv => whnf)
  refine ⟨[], _, _, _, _, toPersonS_h ps hp, rfl, rfl, rfl, trivial, ?_⟩
  ((repeat ((conv => whnf); first | refine brT ?_ | refine brF ?_)); conv => whnf)
  refine ⟨[], _, _, _, _, toUnionS_h us hu, rfl, rfl, rfl, trivial, ?_⟩
  ((repeat ((conv => whnf); first | refine brT ?_ | refine brF ?_)); conv => whnf)
  refine ⟨[famHS ps.length us.length], rfl, rfl, .inr ⟨[.old 3, .old 4], ?_, ?_, rfl⟩⟩
  · ((repeat ((conv => whnf); refine ⟨rfl, rfl, ?_⟩)); trivial)
  · exact ⟨rfl, rfl, rfl, rfl, trivial⟩
end Go.Proofs.Ytdhmnojnkgmmnaa


namespace Go.Proofs.Ytdhmnojnkgmmnaa
open Go.Lg
set_option maxHeartbeats 1600000
set_option maxRecDepth 10000
set_option linter.unusedVariables false
set_option linter.unusedSimpArgs false

def markUni (k : Nat) : Uni := ⟨(k : Int), (k : Int) + 1, (k : Int) + 2, (k : Int) + 3⟩
def markUnis (k : Nat) : Nat → List Uni
  | 0 => []
  | n + 1 => markUnis k n ++ [markUni (k + 4 * n)]
theorem markUnis_len (k : Nat) : ∀ n, (markUnis k n).length = n
  | 0 => rfl
  | n + 1 => by simp [markUnis, markUnis_len k n]
def rowUM (k : Nat) (ps : List Uni) (i : Nat) : List LV := (markUnis k i ++ ps.drop i).map Uni.lv
theorem rowUM_len {k : Nat} {ps : List Uni} {i : Nat} (h : i ≤ ps.length) : (rowUM k ps i).length = ps.length := by simp [rowUM, markUnis_len]; omega
theorem rowUM_get {k : Nat} {ps : List Uni} {i : Nat} (h : i < ps.length) : (rowUM k ps i)[i]? = some ps[i].lv := by
  unfold rowUM
  rw [List.getElem?_map, List.getElem?_append_right (by rw [markUnis_len]; exact Nat.le_refl _), markUnis_len, Nat.sub_self, List.getElem?_drop, Nat.add_zero, List.getElem?_eq_getElem h]
  rfl
theorem rowUM_set {k : Nat} {ps : List Uni} {i : Nat} (h : i < ps.length) : (rowUM k ps i).set i (markUni (k + 4 * i)).lv = rowUM k ps (i + 1) := by
  unfold rowUM
  rw [List.drop_eq_getElem_cons h, List.map_append, List.map_cons, List.set_append_right _ _ (by simp [markUnis_len])]
  simp [markUnis, markUnis_len]

theorem markUnionS_spec (ps : List Uni) (n : Nat) (hn : n = (ps.map Uni.lv).length) (k : Nat) (h1 : k + 4 * ps.length ≤ 2305843009213693952) :
    HSpec env.P 127 [.hs 0 n, .int .i64 (k : Int)] [.arr 110 4 (ps.map Uni.lv)] (.int .i64 ((k + 4 * ps.length : Nat) : Int)) [.arr 110 4 ((markUnis k ps.length).map Uni.lv)] := by
  subst hn
  refine HSpec_of_code (E := env.x [] 1) env_ok.x (fn := Try.f127) Try.func127 rfl Try.call127 _ _ _ _ ?_
  ((repeat ((conv => whnf); first | refine brT ?_ | refine brF ?_)); conv => whnf)
  refine loop_rule (α := Nat) (fun i => [(5, .int .i64 (i : Int)), (1, .int .i64 ((k + 4 * i : Nat) : Int)), (0, .hs 0 (rowUM k ps i).length)]) (fun i => [.arr 110 4 (rowUM k ps i)]) (fun i => ps.length - i) (fun i => i ≤ ps.length) 0 (Nat.zero_le _) ?_ ?_
  · have e0 : ps.map Uni.lv = rowUM k ps 0 := by simp [rowUM, markUnis]
    have e1 : LV.hs 0 (ps.map Uni.lv).length = LV.hs 0 (rowUM k ps 0).length := by rw [e0]
    refine ⟨?_, ⟨congrArg (Blk.arr 110 4) e0, trivial⟩, rfl, rfl⟩
    ((repeat ((conv => whnf); first | refine ⟨e1, ?_⟩ | refine ⟨rfl, ?_⟩)); trivial)
  intro i hi
  have hl := rowUM_len (k := k) hi
  ((repeat ((conv => whnf); first | refine brT ?_ | refine brF ?_)); conv => whnf)
  refine ⟨rfl, fun hm => ?_⟩
  have hm' : ps.length ≤ Go.maxLen := by rw [← hl]; exact hm
  ((repeat ((conv => whnf); first | refine brT ?_ | refine brF ?_)); conv => whnf)
  (refine ⟨fun g1 => ?_, fun g1 => ?_⟩ <;> rw [g1])
  · have hlt : i < ps.length := by rw [ltI_t] at g1; omega
    have e := step_i hlt hm'
    have hiL : i < (rowUM k ps i).length := by omega
    have hg := rowUM_get (k := k) hlt
    have hset := rowUM_set (k := k) hlt
    have w0 : IntKind.i64.wrap (((k + 4 * i : Nat) : Int) + 1) = ((k + 4 * i : Nat) : Int) + 1 := wrap64 (by omega) (by omega)
    have w1 : IntKind.i64.wrap (((k + 4 * i : Nat) : Int) + 1 + 1) = ((k + 4 * i : Nat) : Int) + 2 := by rw [wrap64 (by omega) (by omega)]; omega
    have w2 : IntKind.i64.wrap (((k + 4 * i : Nat) : Int) + 2 + 1) = ((k + 4 * i : Nat) : Int) + 3 := by rw [wrap64 (by omega) (by omega)]; omega
    have w3 : IntKind.i64.wrap (((k + 4 * i : Nat) : Int) + 3 + 1) = ((k + 4 * (i + 1) : Nat) : Int) := by rw [wrap64 (by omega) (by omega)]; omega
    have hlen : ∀ x : LV, (rowUM k ps i).length = ((rowUM k ps i).set i x).length := fun x => by simp
    generalize ps[i] = p at hg hset
    generalize hK : ((k + 4 * i : Nat) : Int) = kk at w0 w1 w2 w3 ⊢
    have hfin : (rowUM k ps i).set i (.st [.int .i64 kk, .int .i64 (kk + 1), .int .i64 (kk + 2), .int .i64 (kk + 3)]) = rowUM k ps (i + 1) := by
      rw [← hset]; unfold markUni Uni.lv; rw [hK]
    generalize rowUM k ps i = L at hl hm hiL hg hlen hfin g1 ⊢
    have hgp : getP (.st L) [i] = some (.st [LV.int .i64 p.husband, LV.int .i64 p.wife, LV.int .i64 p.since, LV.int .i64 p.till]) := by simp [getP, hg, Uni.lv]
    have hgp0 : getP (.st L) [i, 0] = some (.int .i64 p.husband) := by simp [getP, hg, Uni.lv]
    ((repeat ((conv => whnf); first | refine brT ?_ | refine brF ?_)); conv => whnf)
    refine ⟨rfl, rfl, i, rfl, hiL, ?_⟩
    ((repeat ((conv => whnf); first | refine brT ?_ | refine brF ?_)); conv => whnf)
    refine ⟨rfl, by simp, [LV.int .i64 p.husband, LV.int .i64 p.wife, LV.int .i64 p.since, LV.int .i64 p.till], hgp, rfl, by simp, ?_⟩
    ((repeat ((conv => whnf); first | refine brT ?_ | refine brF ?_)); conv => whnf)
    refine ⟨rfl, i, [0], .int .i64 p.husband, rfl, hgp0, rfl, rfl, rfl, L.set i (.st [.int .i64 kk, .int .i64 p.wife, .int .i64 p.since, .int .i64 p.till]), by rw [hg]; rfl, ?_⟩
    ((repeat ((conv => whnf); first | refine brT ?_ | refine brF ?_)); conv => whnf)
    rw [w0]
    refine ⟨hlen _, rfl, i, rfl, by simpa using hiL, ?_⟩
    ((repeat ((conv => whnf); first | refine brT ?_ | refine brF ?_)); conv => whnf)
    refine ⟨hlen _, by simp, _, fw_get hiL _, rfl, by simp, ?_⟩
    ((repeat ((conv => whnf); first | refine brT ?_ | refine brF ?_)); conv => whnf)
    refine ⟨hlen _, i, [1], _, rfl, fw_get2 hiL rfl, rfl, rfl, rfl, _, fw_set hiL rfl (.int .i64 (kk + 1)), ?_⟩
    ((repeat ((conv => whnf); first | refine brT ?_ | refine brF ?_)); conv => whnf)
    rw [w1]
    refine ⟨hlen _, rfl, i, rfl, by simpa using hiL, ?_⟩
    ((repeat ((conv => whnf); first | refine brT ?_ | refine brF ?_)); conv => whnf)
    refine ⟨hlen _, by simp, _, fw_get hiL _, rfl, by simp, ?_⟩
    ((repeat ((conv => whnf); first | refine brT ?_ | refine brF ?_)); conv => whnf)
    refine ⟨hlen _, i, [2], _, rfl, fw_get2 hiL rfl, rfl, rfl, rfl, _, fw_set hiL rfl (.int .i64 (kk + 2)), ?_⟩
    ((repeat ((conv => whnf); first | refine brT ?_ | refine brF ?_)); conv => whnf)
    rw [w2]
    refine ⟨hlen _, rfl, i, rfl, by simpa using hiL, ?_⟩
    ((repeat ((conv => whnf); first | refine brT ?_ | refine brF ?_)); conv => whnf)
    refine ⟨hlen _, by simp, _, fw_get hiL _, rfl, by simp, ?_⟩
    ((repeat ((conv => whnf); first | refine brT ?_ | refine brF ?_)); conv => whnf)
    refine ⟨hlen _, i, [3], _, rfl, fw_get2 hiL rfl, rfl, rfl, rfl, _, fw_set hiL rfl (.int .i64 (kk + 3)), ?_⟩
    ((repeat ((conv => whnf); first | refine brT ?_ | refine brF ?_)); conv => whnf)
    have e5 : LV.hs 0 L.length = LV.hs 0 (rowUM k ps (i + 1)).length := by rw [hl, rowUM_len (by omega)]
    have e6 : LV.int .i64 (IntKind.i64.wrap (kk + 3 + 1)) = LV.int .i64 ((k + 4 * (i + 1) : Nat) : Int) := by rw [w3]
    refine round_end (i + 1) hlt (by omega) ⟨?_, ⟨congrArg (Blk.arr 110 4) hfin, trivial⟩, rfl, rfl⟩
    repeat ((conv => whnf); first | refine ⟨e, ?_⟩ | refine ⟨e6, ?_⟩ | refine ⟨e5, ?_⟩ | refine ⟨rfl, ?_⟩)
    trivial
  · have h3 : i = ps.length := by rw [ltI_f] at g1; omega
    subst h3
    ((repeat ((conv => whnf); first | refine brT ?_ | refine brF ?_)); conv => whnf)
    exact ⟨[.int .i64 ((k + 4 * ps.length : Nat) : Int)], rfl, rfl, .inl ⟨⟨rfl, trivial⟩, ⟨by simp [rowUM], trivial⟩, rfl, rfl⟩⟩

theorem markFamily_spec (ps : List Per) (us : List Uni) (k : Nat) (h1 : k + 6 * ps.length + 4 * us.length ≤ 2305843009213693952) :
    HSpec env.P 43 [famHS ps.length us.length, .int .i64 (k : Int)] [.arr 116 6 (ps.map Per.lv), .arr 110 4 (us.map Uni.lv)] (.int .i64 ((k + 6 * ps.length + 4 * us.length : Nat) : Int))
      [.arr 116 6 ((markPers k ps.length).map Per.lv), .arr 110 4 ((markUnis (k + 6 * ps.length) us.length).map Uni.lv)] := by
  refine HSpec_of_code (E := env.x [126, 127] 2) env_ok.x (fn := Try.f43) Try.func43 rfl Try.call43 _ _ _ _ ?_
  ((repeat ((conv => whnf); first | refine brT ?_ | refine brF ?_)); conv => whnf)
  refine ⟨[0], _, _, _, _, markPersonS_spec ps ps.length (by simp) k (by omega), rfl, rfl, rfl, trivial, ?_⟩
  ((repeat ((conv => whnf); first | refine brT ?_ | refine brF ?_)); conv => whnf)
  refine ⟨[1], _, _, _, _, markUnionS_spec us us.length (by simp) (k + 6 * ps.length) (by omega), rfl, rfl, rfl, trivial, ?_⟩
  ((repeat ((conv => whnf); first | refine brT ?_ | refine brF ?_)); conv => whnf)
  exact ⟨[.int .i64 ((k + 6 * ps.length + 4 * us.length : Nat) : Int)], rfl, rfl, .inl ⟨⟨rfl, trivial⟩, ⟨rfl, rfl, trivial⟩, rfl, rfl⟩⟩

theorem toFamily_hm (ps : List Per) (us : List Uni) (hp : 56 * ps.length ≤ 281474976710656) (hu : 32 * us.length ≤ 281474976710656) :
    HSpec env.P 29 [famLV ps us] [] (famHS (ps.map Per.lv).length (us.map Uni.lv).length) [.arr 116 6 (ps.map Per.lv), .arr 110 4 (us.map Uni.lv)] := by
  rw [List.length_map, List.length_map]; exact toFamily_h ps us hp hu
theorem markFamily_hm (ps : List Per) (us : List Uni) (k : Nat) (h1 : k + 6 * ps.length + 4 * us.length ≤ 2305843009213693952) :
    HSpec env.P 43 [famHS (ps.map Per.lv).length (us.map Uni.lv).length, .int .i64 (k : Int)] [.arr 116 6 (ps.map Per.lv), .arr 110 4 (us.map Uni.lv)] (.int .i64 ((k + 6 * ps.length + 4 * us.length : Nat) : Int))
      [.arr 116 6 ((markPers k ps.length).map Per.lv), .arr 110 4 ((markUnis (k + 6 * ps.length) us.length).map Uni.lv)] := by
  rw [List.length_map, List.length_map]; exact markFamily_spec ps us k h1
end Go.Proofs.Ytdhmnojnkgmmnaa


namespace Go.Proofs.Ytdhmnojnkgmmnaa
open Go.Lg
set_option maxHeartbeats 1600000
set_option maxRecDepth 10000
set_option linter.unusedVariables false
set_option linter.unusedSimpArgs false

end Go.Proofs.Ytdhmnojnkgmmnaa

namespace Go.Proofs.Ytdhmnojnkgmmnaa
open Go.Lg
set_option maxHeartbeats 1600000
set_option maxRecDepth 10000
set_option linter.unusedVariables false
set_option linter.unusedSimpArgs false

/-! A table that is filled row by row. -/
/-! ### Steps in a family, as the model has them -/
end Go.Proofs.Ytdhmnojnkgmmnaa


namespace Go.Proofs.Ytdhmnojnkgmmnaa
open Go.Lg
set_option maxHeartbeats 6400000
set_option maxRecDepth 10000
set_option linter.unusedVariables false
set_option linter.unusedSimpArgs false

end Go.Proofs.Ytdhmnojnkgmmnaa


namespace Go.Proofs.Ytdhmnojnkgmmnaa
open Go.Lg
set_option maxHeartbeats 6400000
set_option maxRecDepth 10000
set_option linter.unusedVariables false
set_option linter.unusedSimpArgs false

end Go.Proofs.Ytdhmnojnkgmmnaa


namespace Go.Proofs.Ytdhmnojnkgmmnaa
open Go.Lg
set_option maxHeartbeats 6400000
set_option maxRecDepth 10000
set_option linter.unusedVariables false
set_option linter.unusedSimpArgs false

end Go.Proofs.Ytdhmnojnkgmmnaa


namespace Go.Proofs.Ytdhmnojnkgmmnaa
open Go.Lg
set_option maxHeartbeats 6400000
set_option maxRecDepth 10000
set_option linter.unusedVariables false
set_option linter.unusedSimpArgs false

end Go.Proofs.Ytdhmnojnkgmmnaa


namespace Go.Proofs.Ytdhmnojnkgmmnaa
open Go.Lg
set_option maxHeartbeats 6400000
set_option maxRecDepth 10000
set_option linter.unusedVariables false
set_option linter.unusedSimpArgs false

end Go.Proofs.Ytdhmnojnkgmmnaa


namespace Go.Proofs.Ytdhmnojnkgmmnaa
open Go.Lg
set_option maxHeartbeats 6400000
set_option maxRecDepth 10000
set_option linter.unusedVariables false
set_option linter.unusedSimpArgs false

end Go.Proofs.Ytdhmnojnkgmmnaa


namespace Go.Proofs.Ytdhmnojnkgmmnaa
open Go.Lg
set_option maxHeartbeats 3200000
set_option maxRecDepth 10000
set_option linter.unusedVariables false
set_option linter.unusedSimpArgs false

end Go.Proofs.Ytdhmnojnkgmmnaa

namespace Go.Proofs.Ytdhmnojnkgmmnaa
open Go.Lg
set_option maxHeartbeats 3200000
set_option maxRecDepth 10000
set_option linter.unusedVariables false
set_option linter.unusedSimpArgs false

/-! ### Steps in a family, as the program has them -/
end Go.Proofs.Ytdhmnojnkgmmnaa


namespace Go.Proofs.Ytdhmnojnkgmmnaa
open Go.Lg
set_option maxHeartbeats 3200000
set_option maxRecDepth 10000
set_option linter.unusedVariables false
set_option linter.unusedSimpArgs false

end Go.Proofs.Ytdhmnojnkgmmnaa


namespace Go.Proofs.Ytdhmnojnkgmmnaa
open Go.Lg
set_option maxHeartbeats 6400000
set_option maxRecDepth 10000
set_option linter.unusedVariables false
set_option linter.unusedSimpArgs false

end Go.Proofs.Ytdhmnojnkgmmnaa


namespace Go.Proofs.Ytdhmnojnkgmmnaa
open Go.Lg
set_option maxHeartbeats 6400000
set_option maxRecDepth 10000
set_option linter.unusedVariables false
set_option linter.unusedSimpArgs false

end Go.Proofs.Ytdhmnojnkgmmnaa


namespace Go.Proofs.Ytdhmnojnkgmmnaa
open Go.Lg
set_option maxHeartbeats 6400000
set_option maxRecDepth 10000
set_option linter.unusedVariables false
set_option linter.unusedSimpArgs false

end Go.Proofs.Ytdhmnojnkgmmnaa


namespace Go.Proofs.Ytdhmnojnkgmmnaa
open Go.Lg
set_option maxHeartbeats 6400000
set_option maxRecDepth 10000
set_option linter.unusedVariables false
set_option linter.unusedSimpArgs false

end Go.Proofs.Ytdhmnojnkgmmnaa


namespace Go.Proofs.Ytdhmnojnkgmmnaa
open Go.Lg
set_option maxHeartbeats 6400000
set_option maxRecDepth 10000
set_option linter.unusedVariables false
set_option linter.unusedSimpArgs false

end Go.Proofs.Ytdhmnojnkgmmnaa


namespace Go.Proofs.Ytdhmnojnkgmmnaa
open Go.Lg
set_option maxHeartbeats 3200000
set_option maxRecDepth 10000
set_option linter.unusedVariables false
set_option linter.unusedSimpArgs false

/-! ### In a valid family both ways of following a step are one -/
theorem par_one {ps : List Per} {i : Nat} {x sx born : Int} (h : parentOk (ps.take i) x sx born = true) :
    (x = -1 ∨ (0 ≤ x ∧ x.toNat < ps.length)) ∧ ∀ (b : Nat) (hb : b < ps.length), x = (b : Int) → ps[b].sex = sx := by
  unfold parentOk at h
  simp only [Bool.or_eq_true, eqI_t, Bool.and_eq_true, leI_t] at h
  rcases h with h | ⟨h0, h1⟩
  · exact ⟨.inl h, fun b hb e => by omega⟩
  · split at h1
    · cases h1
    · rename_i q hq
      obtain ⟨hl, e⟩ := List.getElem?_eq_some_iff.1 hq
      simp only [Bool.and_eq_true, eqI_t] at h1
      rw [List.length_take] at hl
      rw [List.getElem_take] at e
      refine ⟨.inr ⟨h0, by omega⟩, fun b hb ex => ?_⟩
      have eb : x.toNat = b := by omega
      subst eb
      rw [e]
      exact h1.1
theorem par_sex {ps : List Per} {us : List Uni} (h : famOk ps us = true) {i : Nat} (hi : i < ps.length) :
    ((ps[i].father = -1 ∨ (0 ≤ ps[i].father ∧ ps[i].father.toNat < ps.length)) ∧ ∀ (b : Nat) (hb : b < ps.length), ps[i].father = (b : Int) → ps[b].sex = 1) ∧
    ((ps[i].mother = -1 ∨ (0 ≤ ps[i].mother ∧ ps[i].mother.toNat < ps.length)) ∧ ∀ (b : Nat) (hb : b < ps.length), ps[i].mother = (b : Int) → ps[b].sex = 2) := by
  obtain ⟨_, _, hp, _, _⟩ := famOk_parts h
  obtain ⟨_, _, _, _, _, _, p1, p2⟩ := personOk_spec (personsTo_get hp hi hi)
  exact ⟨par_one p1, par_one p2⟩
/-- A father is no one's mother. -/
theorem far {ps : List Per} {us : List Uni} (h : famOk ps us = true) {i j : Nat} (hi : i < ps.length) (hj : j < ps.length) (e : ps[i].father ≠ -1) : ps[i].father ≠ ps[j].mother := by
  obtain ⟨⟨f1, f2⟩, _⟩ := par_sex h hi
  obtain ⟨_, _, m2⟩ := par_sex h hj
  intro k
  rcases f1 with f1 | ⟨f0, fl⟩
  · exact e f1
  · have a1 := f2 _ fl (by omega)
    have a2 := m2 _ fl (by omega)
    omega

section
variable {ps : List Per} {us : List Uni} {s : Pr} (h : famOk ps us = true)
include h
end

end Go.Proofs.Ytdhmnojnkgmmnaa

namespace Go.Proofs.Ytdhmnojnkgmmnaa
open Go.Lg
set_option maxHeartbeats 6400000
set_option maxRecDepth 10000
set_option linter.unusedVariables false
set_option linter.unusedSimpArgs false

end Go.Proofs.Ytdhmnojnkgmmnaa

namespace Go.Proofs.Ytdhmnojnkgmmnaa
open Go.Lg
set_option maxHeartbeats 3200000
set_option maxRecDepth 10000
set_option linter.unusedVariables false
set_option linter.unusedSimpArgs false

def boolsLV (row : List Bool) : LV := .sl (row.map bLV)
/-- The people of a row. -/
def listedTo (row : List Bool) (k : Nat) : List Int := ((List.range k).filter fun a => row.getD a false).map Int.ofNat
theorem listedTo_succ (row : List Bool) (k : Nat) : listedTo row (k + 1) = listedTo row k ++ (match row.getD k false with | true => [(k : Int)] | false => []) := by
  unfold listedTo
  rw [List.range_succ, List.filter_append, List.map_append]
  have hf : List.filter (fun a => row.getD a false) [k] = (match row.getD k false with | true => [k] | false => []) := by
    rw [List.filter_cons]
    show (if row.getD k false = true then [k] else []) = _
    cases row.getD k false <;> rfl
  rw [hf]
  cases row.getD k false <;> rfl
theorem listedTo_len (row : List Bool) (k : Nat) : (listedTo row k).length ≤ k := by
  unfold listedTo
  rw [List.length_map]
  exact Nat.le_trans (List.length_filter_le _ _) (by simp)
theorem l3Listed_h (row : List Bool) (hN : row.length ≤ 1048576) : HSpec env.P 121 [boolsLV row] [] (.hs 0 ((listedTo row row.length).map intLV).length) [.arr 3 1 ((listedTo row row.length).map intLV)] := by
  refine HSpec_of_code (E := env.x [] 0) env_ok.x (fn := Try.f121) Try.func121 rfl Try.call121 _ _ _ _ ?_
  have er : (row.map bLV).length = row.length := List.length_map ..
  ((repeat ((conv => whnf); first | refine brT ?_ | refine brF ?_)); conv => whnf)
  intro hm
  ((repeat ((conv => whnf); first | refine brT ?_ | refine brF ?_)); conv => whnf)
  rw [er]
  refine loop_ruleR (α := Nat) [.old 0] (fun k => [(9, .int .i64 (k : Int)), (6, .undef), (3, .hs 0 ((listedTo row k).map intLV).length)]) (fun k => [.arr 3 1 ((listedTo row k).map intLV)]) (fun k => row.length - k) (fun k => k ≤ row.length) 0 (Nat.zero_le _) ?_ ?_
  · refine ⟨?_, ⟨rfl, rfl, trivial⟩, rfl⟩
    ((repeat ((conv => whnf); refine ⟨rfl, rfl, ?_⟩)); trivial)
  intro k hk
  ((repeat ((conv => whnf); first | refine brT ?_ | refine brF ?_)); conv => whnf)
  (refine ⟨fun h1 => ?_, fun h1 => ?_⟩ <;> rw [h1])
  · have hlt : k < row.length := by rw [ltI_t] at h1; omega
    have hll := listedTo_len row k
    have e := step_i hlt (by unfold Go.maxLen; omega)
    have hgd : row.getD k false = row[k] := by simp [hlt]
    have hsucc := listedTo_succ row k
    rw [hgd] at hsucc
    ((repeat ((conv => whnf); first | refine brT ?_ | refine brF ?_)); conv => whnf)
    refine ⟨k, bLV row[k], rfl, by simp [hlt], rfl, ?_⟩
    ((repeat ((conv => whnf); first | refine brT ?_ | refine brF ?_)); conv => whnf)
    (refine ⟨fun h3 => ?_, fun h3 => ?_⟩ <;> rw [h3])
    · have e2 : (listedTo row k).map intLV ++ [LV.int .i64 (k : Int)] = (listedTo row (k + 1)).map intLV := by rw [hsucc, h3, List.map_append]; rfl
      have e3 : LV.hs 0 ((listedTo row k).map intLV ++ [LV.int .i64 (k : Int)]).length = LV.hs 0 ((listedTo row (k + 1)).map intLV).length := by rw [e2]
      ((repeat ((conv => whnf); first | refine brT ?_ | refine brF ?_)); conv => whnf)
      refine ⟨rfl, rfl, ?_, ?_, ?_⟩
      · rw [List.length_append, List.length_map]; unfold Go.maxLen; simp; omega
      · rw [List.length_append, List.length_map]; simp; omega
      ((repeat ((conv => whnf); first | refine brT ?_ | refine brF ?_)); conv => whnf)
      refine round_endR [.old 2] (k + 1) hlt (by omega) ⟨?_, ⟨rfl, congrArg (Blk.arr 3 1) e2, trivial⟩, rfl⟩
      (repeat ((conv => whnf); first | refine ⟨rfl, e, ?_⟩ | refine ⟨rfl, e3, ?_⟩ | refine ⟨rfl, rfl, ?_⟩))
      trivial
    · have e2 : listedTo row k = listedTo row (k + 1) := by rw [hsucc, h3]; simp
      have e3 : LV.hs 0 ((listedTo row k).map intLV).length = LV.hs 0 ((listedTo row (k + 1)).map intLV).length := by rw [e2]
      ((repeat ((conv => whnf); first | refine brT ?_ | refine brF ?_)); conv => whnf)
      refine round_endR [.old 0] (k + 1) hlt (by omega) ⟨?_, ⟨rfl, by rw [e2]; rfl, trivial⟩, rfl⟩
      (repeat ((conv => whnf); first | refine ⟨rfl, e, ?_⟩ | refine ⟨rfl, e3, ?_⟩ | refine ⟨rfl, rfl, ?_⟩))
      trivial
  · have h3 : k = row.length := by rw [ltI_f] at h1; omega
    subst h3
    ((repeat ((conv => whnf); first | refine brT ?_ | refine brF ?_)); conv => whnf)
    exact ⟨[.hs 0 ((listedTo row row.length).map intLV).length], rfl, rfl, .inl ⟨⟨rfl, trivial⟩, ⟨rfl, trivial⟩, rfl, rfl⟩⟩
end Go.Proofs.Ytdhmnojnkgmmnaa


namespace Go.Proofs.Ytdhmnojnkgmmnaa
open Go.Lg Go.Pm
set_option maxHeartbeats 6400000
set_option maxRecDepth 10000
set_option linter.unusedVariables false
set_option linter.unusedSimpArgs false

/-! ### Errors of classes -/
def badB (g : List Int) (b : Bd) : Bool := notB (eqI (g.getD b.to.toNat 0) (b.via.getD (g.getD b.fr.toNat 0).toNat 0))
def badN (g : List Int) : List Bd → Nat → Nat
  | [], s => s
  | b :: bs, s => badN g bs (match badB g b with | true => s ||| 2 ^ b.to.toNat | false => s)
theorem badN_cons {g : List Int} (b : Bd) (bs : List Bd) (s : Nat) : badN g (b :: bs) s = badN g bs (match badB g b with | true => s ||| 2 ^ b.to.toNat | false => s) := rfl
theorem badN_bit {g : List Int} : ∀ (bs : List Bd) (s i : Nat), (badN g bs s).testBit i = (s.testBit i || bs.any fun b => decide (b.to.toNat = i) && badB g b)
  | [], s, i => by simp [badN]
  | b :: bs, s, i => by
    unfold badN
    rw [badN_bit bs, List.any_cons]
    cases h : badB g b
    · simp
    · simp only [Bool.and_true, Nat.testBit_or, Nat.testBit_two_pow]
      rw [Bool.or_assoc]
structure BdIn (N m : Nat) (b : Bd) : Prop where
  f0 : 0 ≤ b.fr
  fl : b.fr.toNat < N
  t0 : 0 ≤ b.to
  tl : b.to.toNat < N
  vl : b.via.length = m
theorem toCh_len {w c : List Int} (hc : clsB w c = true) (j : Nat) : (toCh w c j).length = w.length := (stp_perm hc 5 _).2
theorem bdsTo_in {ps : List Per} (hp : parsIn ps) {sx : Int} {q : List Int} : ∀ k, k ≤ ps.length → ∀ b ∈ bdsTo ps sx q k, BdIn ps.length q.length b
  | 0, _, b, hb => by simp [bdsTo] at hb
  | k + 1, hk, b, hb => by
    have hlt : k < ps.length := hk
    cases e : eqI (parS ps[k] sx) (-1)
    · rw [bdsTo_yes hlt e, List.mem_append] at hb
      rcases hb with hb | hb
      · exact bdsTo_in hp k (by omega) b hb
      · simp only [List.mem_singleton] at hb
        subst hb
        have hx := parS_in hp (sx := sx) hlt
        rw [eqI_f] at e
        obtain ⟨x0, x1⟩ := hx.resolve_left e
        exact ⟨x0, by show (parS ps[k] sx).toNat < _; omega, by show (0 : Int) ≤ (k : Int); omega, by show ((k : Int)).toNat < _; omega, rfl⟩
    · rw [← bdsTo_no hlt e] at hb
      exact bdsTo_in hp k (by omega) b hb
theorem bdsJ_in {ps : List Per} {us : List Uni} {w c : List Int} (hf : famOk ps us = true) (hc : clsB w c = true) : ∀ j, ∀ b ∈ bdsJ ps us w c j, BdIn ps.length w.length b
  | 0, b, hb => by
    simp only [bdsJ, List.mem_map] at hb
    obtain ⟨u, hu, rfl⟩ := hb
    obtain ⟨k, hk, rfl⟩ := List.mem_iff_getElem.1 hu
    obtain ⟨h, _⟩ := uni_of hf hk
    exact ⟨h.m0, h.ml, h.w0, h.wl, rfl⟩
  | j + 1, b, hb => by
    simp only [bdsJ, List.mem_append] at hb
    rcases hb with hb | hb
    · exact bdsJ_in hf hc j b hb
    · have := bdsTo_in (parsIn_of (famOk_parts hf).2.2.1) _ (Nat.le_refl _) b hb
      rw [toCh_len hc] at this
      exact this
def errN (ps : List Per) (us : List Uni) (w c g : List Int) : Nat := badN g (bdsJ ps us w c 2) 0
def errL (ps : List Per) (us : List Uni) (w c g : List Int) : List Int := match givB ps us w c g 0 with | true => listN (errN ps us w c g) | false => []
def errHS (ps : List Per) (us : List Uni) (w c g : List Int) : LV := .tup [.hs 0 ((errL ps us w c g).map intLV).length, .bool (givB ps us w c g 0)]
theorem giv_at {ps : List Per} {us : List Uni} {w c g : List Int} {lo : Int} (h : givB ps us w c g lo = true) : famOk ps us = true ∧ clsB w c = true ∧ g.length = ps.length ∧ (∀ i, i < g.length → lo ≤ g.getD i 0 ∧ g.getD i 0 < (w.length : Int)) := by
  unfold givB at h
  simp only [Bool.and_eq_true, eqI_t] at h
  refine ⟨h.1, h.2.1, by omega, fun i hi => ?_⟩
  have := List.all_eq_true.1 h.2.2.2 g[i] (List.getElem_mem hi)
  unfold inCl at this
  simp only [Bool.and_eq_true, leI_t, ltI_t] at this
  rw [List.getD_eq_getElem?_getD, List.getElem?_eq_getElem hi]
  exact this
theorem errors_impl (ps : List Per) (us : List Uni) (w c g : List Int) (hw : w.length ≤ 1048576) (hc : c.length ≤ 1048576) :
    HSpec env.P 41 [famLV ps us, clsLV w c, rowSl g] [] (errHS ps us w c g) [.arr 3 1 ((errL ps us w c g).map intLV)] := by
  refine HSpec_of_code (E := env.x [124, 125] 0) env_ok.x (fn := Try.f41) Try.func41 rfl Try.call41 _ _ _ _ ?_
  unfold errHS errL
  ((repeat ((conv => whnf); first | refine brT ?_ | refine brF ?_)); conv => whnf)
  refine ⟨_, giv_impl ps us w c g 0 hw hc, ?_⟩
  ((repeat ((conv => whnf); first | refine brT ?_ | refine brF ?_)); conv => whnf)
  cases h1 : givB ps us w c g 0
  · rw [show notB false = true by simp [notB]]
    ((repeat ((conv => whnf); first | refine brT ?_ | refine brF ?_)); conv => whnf)
    exact ⟨[.hs 0 0, .bool false], rfl, rfl, .nl [.tmp 0 [] false 3 1] [.old 2] ⟨⟨rfl, rfl, rfl, rfl, trivial⟩, ⟨rfl, rfl, trivial⟩, rfl⟩⟩
  rw [show notB true = false by simp [notB]]
  obtain ⟨hf, hcl, hg, hgi⟩ := giv_at h1
  obtain ⟨l40, u60, _, _, _⟩ := famOk_parts hf
  have hin := bdsJ_in (ps := ps) (us := us) hf hcl 2
  have hb := bonds_f ps us w c l40 u60 hw hc
  have hbl := bdsJ_len ps us w c 2
  unfold errN
  generalize bdsJ ps us w c 2 = bs at hin hb hbl ⊢
  have hB : (bs.map Bd.lv).length = bs.length := List.length_map ..
  ((repeat ((conv => whnf); first | refine brT ?_ | refine brF ?_)); conv => whnf)
  refine ⟨_, hb, ?_⟩
  ((repeat ((conv => whnf); first | refine brT ?_ | refine brF ?_)); conv => whnf)
  intro hbm
  have hb' : bs.length ≤ Go.maxLen := by rw [← hB]; exact hbm
  ((repeat ((conv => whnf); first | refine brT ?_ | refine brF ?_)); conv => whnf)
  refine loop_rule (α := Nat × Nat) (fun x => [(20, .int .i64 (x.1 : Int))]) (fun x => [.box (famLV ps us), .box (clsLV w c), .box (uLV x.2)]) (fun x => bs.length - x.1)
    (fun x => x.1 ≤ bs.length ∧ x.2 < 2 ^ 64 ∧ badN g (bs.drop x.1) x.2 = badN g bs 0) (0, 0) ⟨Nat.zero_le _, by decide, rfl⟩ ?_ ?_
  · refine ⟨?_, ⟨rfl, rfl, rfl, trivial⟩, rfl, rfl⟩
    ((repeat ((conv => whnf); refine ⟨rfl, ?_⟩)); trivial)
  rintro ⟨k, s⟩ ⟨hk, hs, hfin⟩
  simp only at hk hs hfin
  generalize hK : kk _ = KK
  ((repeat ((conv => whnf); first | refine brT ?_ | refine brF ?_)); conv => whnf)
  (refine ⟨fun g1 => ?_, fun g1 => ?_⟩ <;> rw [g1])
  · have hlt : k < bs.length := by rw [ltI_t] at g1; simp at g1; omega
    have e := step_i hlt hb'
    have hbi := hin bs[k] (List.getElem_mem hlt)
    rw [List.drop_eq_getElem_cons hlt, badN_cons] at hfin
    have hgt : (bs.map Bd.lv)[k]? = some bs[k].lv := by simp [hlt]
    generalize bs[k] = b at hbi hfin hgt
    obtain ⟨fr, to, via⟩ := b
    obtain ⟨f0, fl, t0, tl, vl⟩ := hbi
    simp only at f0 fl t0 tl vl
    obtain ⟨y0, y1⟩ := hgi fr.toNat (by omega)
    have hvl : (g.getD fr.toNat 0).toNat < via.length := by rw [show via.length = w.length from vl]; omega
    ((repeat ((conv => whnf); first | refine brT ?_ | refine brF ?_)); conv => whnf)
    refine ⟨k, _, rfl, hgt, rfl, ?_⟩
    ((repeat ((conv => whnf); first | refine brT ?_ | refine brF ?_)); conv => whnf)
    refine ⟨true, by kernel_rfl, ?_⟩
    ((repeat ((conv => whnf); first | refine brT ?_ | refine brF ?_)); conv => whnf)
    refine ⟨to.toNat, intLV (g.getD to.toNat 0), by show to = ((to.toNat : Nat) : Int); omega, ints_at t0 (by omega), rfl, ?_⟩
    ((repeat ((conv => whnf); first | refine brT ?_ | refine brF ?_)); conv => whnf)
    refine ⟨fr.toNat, intLV (g.getD fr.toNat 0), by show fr = ((fr.toNat : Nat) : Int); omega, ints_at f0 (by omega), rfl, ?_⟩
    ((repeat ((conv => whnf); first | refine brT ?_ | refine brF ?_)); conv => whnf)
    refine ⟨(g.getD fr.toNat 0).toNat, intLV (via.getD (g.getD fr.toNat 0).toNat 0), by omega, ints_at y0 hvl, rfl, ?_⟩
    ((repeat ((conv => whnf); first | refine brT ?_ | refine brF ?_)); conv => whnf)
    cases h2 : notB (eqI (g.getD to.toNat 0) (via.getD (g.getD fr.toNat 0).toNat 0))
    · have h2' : badB g ⟨fr, to, via⟩ = false := h2
      rw [h2'] at hfin
      ((repeat ((conv => whnf); first | refine brT ?_ | refine brF ?_)); conv => whnf)
      subst hK
      refine round_end (k + 1, s) ⟨hlt, hs, hfin⟩ (by show bs.length - (k + 1) < bs.length - k; omega) ⟨?_, ⟨rfl, rfl, rfl, trivial⟩, rfl, rfl⟩
      ((repeat ((conv => whnf); first | refine ⟨e, ?_⟩ | refine ⟨rfl, ?_⟩)); trivial)
    · have h2' : badB g ⟨fr, to, via⟩ = true := h2
      rw [h2'] at hfin
      ((repeat ((conv => whnf); first | refine brT ?_ | refine brF ?_)); conv => whnf)
      refine ⟨[2], _, _, _, _, add_box s to hs t0 (by omega), rfl, rfl, rfl, trivial, ?_⟩
      ((repeat ((conv => whnf); first | refine brT ?_ | refine brF ?_)); conv => whnf)
      subst hK
      refine round_end (k + 1, s ||| 2 ^ to.toNat) ⟨hlt, Nat.or_lt_two_pow hs (two_lt (by omega)), hfin⟩ (by show bs.length - (k + 1) < bs.length - k; omega) ⟨?_, ⟨rfl, rfl, rfl, trivial⟩, rfl, rfl⟩
      ((repeat ((conv => whnf); first | refine ⟨e, ?_⟩ | refine ⟨rfl, ?_⟩)); trivial)
  have h3 : bs.length ≤ k := by rw [ltI_f] at g1; simp at g1; omega
  subst hK
  rw [List.drop_eq_nil_of_le h3] at hfin
  have hfin' : s = badN g bs 0 := hfin
  rw [← hfin']
  ((repeat ((conv => whnf); first | refine brT ?_ | refine brF ?_)); conv => whnf)
  refine ⟨[], _, _, _, _, list_h s hs, rfl, rfl, rfl, trivial, ?_⟩
  ((repeat ((conv => whnf); first | refine brT ?_ | refine brF ?_)); conv => whnf)
  exact ⟨[.hs 0 ((listN s).map intLV).length, .bool true], rfl, rfl, .inr ⟨[.old 3], ⟨rfl, rfl, rfl, rfl, trivial⟩, ⟨rfl, rfl, trivial⟩, rfl⟩⟩
end Go.Proofs.Ytdhmnojnkgmmnaa

