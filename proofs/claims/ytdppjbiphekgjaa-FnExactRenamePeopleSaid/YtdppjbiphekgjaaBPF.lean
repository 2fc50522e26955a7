/- Contracts of functions of the program and of its model, told over readings. -/
import Derived.Test.YtdppjbiphekgjaaBPE
import Derived.Test.YtdppjbiphekgjaaBPC
import Derived.Test.YtdppjbiphekgjaaBPA
import Derived.Test.YtdppjbiphekgjaaBLgW
namespace Go.Proofs.Ytdppjbiphekgjaa
open Go.Lg
set_option maxHeartbeats 6400000
set_option maxRecDepth 10000
set_option linter.unusedVariables false
set_option linter.unusedSimpArgs false

theorem reachOf_d (ps : List Per) (us : List Uni) (s : Pr) (hN : ps.length ≤ 40) (h1 : eqI s.a 1 = false) (h2 : eqI s.a 2 = false) (h3 : eqI s.a 3 = false) (h4 : eqI s.a 4 = false) (h5 : eqI s.a 5 = false) (h6 : eqI s.a 6 = false) (h7 : eqI s.a 7 = true) (V : Nat → Nat → Bool) (hV : ∀ (a b : Nat) (ha : a < ps.length) (hb : b < ps.length), V a b = (eqI ps[b].sex (sxOf s.a) && us.any (unitedOf b a))) :
    HSpec env.P 67 [famLV ps us, s.lv] [] (.hs 0 ps.length) [.arr 109 1 ((setsP ps.length (doneP ps.length V ps.length 0)).map uLV)] := by
  refine HSpec_of_code (E := env.x [134, 136] 0) env_ok.x (fn := Try.f67) Try.func67 rfl Try.call67 _ _ _ _ ?_
  ((repeat ((conv => whnf); first | refine brT ?_ | refine brF ?_)); conv => whnf)
  refine ⟨[], _, _, _, _, linkOf_d ps us s h1 h2 h3 h4 h5 h6 h7, rfl, rfl, rfl, trivial, ?_⟩
  ((repeat ((conv => whnf); first | refine brT ?_ | refine brF ?_)); conv => whnf)
  intro hm
  have hm' : ps.length ≤ Go.maxLen := by simpa using hm
  rw [show (List.map Per.lv ps).length = ps.length by simp]
  ((repeat ((conv => whnf); first | refine brT ?_ | refine brF ?_)); conv => whnf)
  refine ⟨ps.length, rfl, rfl, by show 8 * ps.length ≤ _; omega, by unfold Go.maxLen; omega, rfl, by decide, ?_⟩
  have ez : List.replicate ps.length (LV.int .u64 0) = (setsP ps.length (doneP ps.length V 0 0)).map uLV := by rw [doneP_zero, ← setsP_zero]; simp [uLV]
  ((repeat ((conv => whnf); first | refine brT ?_ | refine brF ?_)); conv => whnf)
  rw [ez]
  intro _
  rw [show (List.map Per.lv ps).length = ps.length by simp]
  ((repeat ((conv => whnf); first | refine brT ?_ | refine brF ?_)); conv => whnf)
  refine loop_rule (α := Nat) (fun k => [(20, .int .i64 (k : Int))])
    (fun k => [.box (famLV ps us), .box s.lv, .box (famLV ps us), .box s.lv, .box (.clos 164 [.hp 2 0 []]), .arr 109 1 ((setsP ps.length (doneP ps.length V k 0)).map uLV)]) (fun k => ps.length - k) (fun k => k ≤ ps.length) 0 (Nat.zero_le _) ?_ ?_
  · refine ⟨?_, ⟨rfl, rfl, rfl, rfl, rfl, rfl, trivial⟩, rfl, rfl⟩
    ((repeat ((conv => whnf); refine ⟨rfl, ?_⟩)); trivial)
  intro k hk
  ((repeat ((conv => whnf); first | refine brT ?_ | refine brF ?_)); conv => whnf)
  (refine ⟨fun g1 => ?_, fun g1 => ?_⟩ <;> rw [g1])
  · have hlt : k < ps.length := by rw [ltI_t] at g1; omega
    have e1 := step_i hlt hm'
    ((repeat ((conv => whnf); first | refine brT ?_ | refine brF ?_)); conv => whnf)
    intro _
    rw [show (List.map Per.lv ps).length = ps.length by simp]
    ((repeat ((conv => whnf); first | refine brT ?_ | refine brF ?_)); conv => whnf)
    refine loop_rule (α := Nat) (fun i => [(26, .int .i64 (i : Int))])
      (fun i => [.box (famLV ps us), .box s.lv, .box (famLV ps us), .box s.lv, .box (.clos 164 [.hp 2 0 []]), .arr 109 1 ((setsP ps.length (doneP ps.length V k i)).map uLV)]) (fun i => ps.length - i) (fun i => i ≤ ps.length) 0 (Nat.zero_le _) ?_ ?_
    · refine ⟨?_, ⟨rfl, rfl, rfl, rfl, rfl, rfl, trivial⟩, rfl, rfl⟩
      ((repeat ((conv => whnf); refine ⟨rfl, ?_⟩)); trivial)
    intro i hi
    generalize hKK : kk _ = KK
    ((repeat ((conv => whnf); first | refine brT ?_ | refine brF ?_)); conv => whnf)
    (refine ⟨fun g2 => ?_, fun g2 => ?_⟩ <;> rw [g2])
    · have hil : i < ps.length := by rw [ltI_t] at g2; omega
      have e2 := step_i hil hm'
      have hv := hV k i hlt hil
      ((repeat ((conv => whnf); first | refine brT ?_ | refine brF ?_)); conv => whnf)
      refine ⟨i, ps[i].lv, rfl, by simp [hil], rfl, ?_⟩
      ((repeat ((conv => whnf); first | refine brT ?_ | refine brF ?_)); conv => whnf)
      refine ⟨true, by kernel_rfl, ?_⟩
      ((repeat ((conv => whnf); first | refine brT ?_ | refine brF ?_)); conv => whnf)
      refine ⟨_, sexOfStep_spec s, ?_⟩
      ((repeat ((conv => whnf); first | refine brT ?_ | refine brF ?_)); conv => whnf)
      (refine ⟨fun q => ?_, fun q => ?_⟩ <;> rw [q])
      · ((repeat ((conv => whnf); first | refine brT ?_ | refine brF ?_)); conv => whnf)
        refine ⟨_, link4_spec ps us k i, ?_⟩
        ((repeat ((conv => whnf); first | refine brT ?_ | refine brF ?_)); conv => whnf)
        (refine ⟨fun q2 => ?_, fun q2 => ?_⟩ <;> rw [q2])
        · have hvt : V k i = true := by rw [hv, q, q2]; rfl
          have ep := doneP_put (V := V) (k := k) hil
          rw [hvt] at ep
          ((repeat ((conv => whnf); first | refine brT ?_ | refine brF ?_)); conv => whnf)
          refine ⟨by simp [setsP_len], rfl, k, rfl, by simpa [setsP_len] using hlt, ?_⟩
          ((repeat ((conv => whnf); first | refine brT ?_ | refine brF ?_)); conv => whnf)
          refine ⟨[5], _, _, _, _, add_elem ps.length (doneP ps.length V k i) k i hlt hil hN ps.length (by simp [setsP_len]), rfl, ?_⟩
          ((repeat ((conv => whnf); first | refine brT ?_ | refine brF ?_)); conv => whnf)
          refine ⟨rfl, rfl, trivial, ?_⟩
          ((repeat ((conv => whnf); first | refine brT ?_ | refine brF ?_)); conv => whnf)
          refine round_end (i + 1) hil (by omega) ⟨?_, ⟨rfl, rfl, rfl, rfl, rfl, congrArg (fun P => Blk.arr 109 1 ((setsP ps.length P).map uLV)) ep, trivial⟩, rfl, rfl⟩
          ((repeat ((conv => whnf); first | refine ⟨e2, ?_⟩ | refine ⟨rfl, ?_⟩)); trivial)
        · have hvf : V k i = false := by rw [hv, q, q2]; rfl
          ((repeat ((conv => whnf); first | refine brT ?_ | refine brF ?_)); conv => whnf)
          refine round_end (i + 1) hil (by omega) ⟨?_, ⟨rfl, rfl, rfl, rfl, rfl, congrArg (fun P => Blk.arr 109 1 ((setsP ps.length P).map uLV)) (doneP_skip hil hvf), trivial⟩, rfl, rfl⟩
          ((repeat ((conv => whnf); first | refine ⟨e2, ?_⟩ | refine ⟨rfl, ?_⟩)); trivial)
      · have hvf : V k i = false := by rw [hv, q]; rfl
        ((repeat ((conv => whnf); first | refine brT ?_ | refine brF ?_)); conv => whnf)
        refine round_end (i + 1) hil (by omega) ⟨?_, ⟨rfl, rfl, rfl, rfl, rfl, congrArg (fun P => Blk.arr 109 1 ((setsP ps.length P).map uLV)) (doneP_skip hil hvf), trivial⟩, rfl, rfl⟩
        ((repeat ((conv => whnf); first | refine ⟨e2, ?_⟩ | refine ⟨rfl, ?_⟩)); trivial)
    · have hil : i = ps.length := by rw [ltI_f] at g2; omega
      subst hil
      subst hKK
      ((repeat ((conv => whnf); first | refine brT ?_ | refine brF ?_)); conv => whnf)
      refine round_end (k + 1) hlt (by omega) ⟨?_, ⟨rfl, rfl, rfl, rfl, rfl, congrArg (fun P => Blk.arr 109 1 ((setsP ps.length P).map uLV)) (doneP_row ps.length V k), trivial⟩, rfl, rfl⟩
      ((repeat ((conv => whnf); first | refine ⟨e1, ?_⟩ | refine ⟨rfl, ?_⟩)); trivial)
  · have h3 : k = ps.length := by rw [ltI_f] at g1; omega
    subst h3
    ((repeat ((conv => whnf); first | refine brT ?_ | refine brF ?_)); conv => whnf)
    exact ⟨[.hs 0 ps.length], rfl, rfl, .inr ⟨[.old 5], ⟨rfl, rfl, trivial⟩, ⟨rfl, rfl, trivial⟩, rfl⟩⟩
end Go.Proofs.Ytdppjbiphekgjaa

namespace Go.Proofs.Ytdppjbiphekgjaa
open Go.Lg
set_option maxHeartbeats 6400000
set_option maxRecDepth 10000
set_option linter.unusedVariables false
set_option linter.unusedSimpArgs false

theorem reachOf_e (ps : List Per) (us : List Uni) (s : Pr) (hN : ps.length ≤ 40) (h1 : eqI s.a 1 = false) (h2 : eqI s.a 2 = false) (h3 : eqI s.a 3 = false) (h4 : eqI s.a 4 = false) (h5 : eqI s.a 5 = false) (h6 : eqI s.a 6 = false) (h7 : eqI s.a 7 = false) (V : Nat → Nat → Bool) (hV : ∀ (a b : Nat) (ha : a < ps.length) (hb : b < ps.length), V a b = (eqI ps[b].sex (sxOf s.a) && us.any (unitedOf a b))) :
    HSpec env.P 67 [famLV ps us, s.lv] [] (.hs 0 ps.length) [.arr 109 1 ((setsP ps.length (doneP ps.length V ps.length 0)).map uLV)] := by
  refine HSpec_of_code (E := env.x [134, 136] 0) env_ok.x (fn := Try.f67) Try.func67 rfl Try.call67 _ _ _ _ ?_
  ((repeat ((conv => whnf); first | refine brT ?_ | refine brF ?_)); conv => whnf)
  refine ⟨[], _, _, _, _, linkOf_e ps us s h1 h2 h3 h4 h5 h6 h7, rfl, rfl, rfl, trivial, ?_⟩
  ((repeat ((conv => whnf); first | refine brT ?_ | refine brF ?_)); conv => whnf)
  intro hm
  have hm' : ps.length ≤ Go.maxLen := by simpa using hm
  rw [show (List.map Per.lv ps).length = ps.length by simp]
  ((repeat ((conv => whnf); first | refine brT ?_ | refine brF ?_)); conv => whnf)
  refine ⟨ps.length, rfl, rfl, by show 8 * ps.length ≤ _; omega, by unfold Go.maxLen; omega, rfl, by decide, ?_⟩
  have ez : List.replicate ps.length (LV.int .u64 0) = (setsP ps.length (doneP ps.length V 0 0)).map uLV := by rw [doneP_zero, ← setsP_zero]; simp [uLV]
  ((repeat ((conv => whnf); first | refine brT ?_ | refine brF ?_)); conv => whnf)
  rw [ez]
  intro _
  rw [show (List.map Per.lv ps).length = ps.length by simp]
  ((repeat ((conv => whnf); first | refine brT ?_ | refine brF ?_)); conv => whnf)
  refine loop_rule (α := Nat) (fun k => [(20, .int .i64 (k : Int))])
    (fun k => [.box (famLV ps us), .box s.lv, .box (famLV ps us), .box s.lv, .box (.clos 164 [.hp 2 0 []]), .arr 109 1 ((setsP ps.length (doneP ps.length V k 0)).map uLV)]) (fun k => ps.length - k) (fun k => k ≤ ps.length) 0 (Nat.zero_le _) ?_ ?_
  · refine ⟨?_, ⟨rfl, rfl, rfl, rfl, rfl, rfl, trivial⟩, rfl, rfl⟩
    ((repeat ((conv => whnf); refine ⟨rfl, ?_⟩)); trivial)
  intro k hk
  ((repeat ((conv => whnf); first | refine brT ?_ | refine brF ?_)); conv => whnf)
  (refine ⟨fun g1 => ?_, fun g1 => ?_⟩ <;> rw [g1])
  · have hlt : k < ps.length := by rw [ltI_t] at g1; omega
    have e1 := step_i hlt hm'
    ((repeat ((conv => whnf); first | refine brT ?_ | refine brF ?_)); conv => whnf)
    intro _
    rw [show (List.map Per.lv ps).length = ps.length by simp]
    ((repeat ((conv => whnf); first | refine brT ?_ | refine brF ?_)); conv => whnf)
    refine loop_rule (α := Nat) (fun i => [(26, .int .i64 (i : Int))])
      (fun i => [.box (famLV ps us), .box s.lv, .box (famLV ps us), .box s.lv, .box (.clos 164 [.hp 2 0 []]), .arr 109 1 ((setsP ps.length (doneP ps.length V k i)).map uLV)]) (fun i => ps.length - i) (fun i => i ≤ ps.length) 0 (Nat.zero_le _) ?_ ?_
    · refine ⟨?_, ⟨rfl, rfl, rfl, rfl, rfl, rfl, trivial⟩, rfl, rfl⟩
      ((repeat ((conv => whnf); refine ⟨rfl, ?_⟩)); trivial)
    intro i hi
    generalize hKK : kk _ = KK
    ((repeat ((conv => whnf); first | refine brT ?_ | refine brF ?_)); conv => whnf)
    (refine ⟨fun g2 => ?_, fun g2 => ?_⟩ <;> rw [g2])
    · have hil : i < ps.length := by rw [ltI_t] at g2; omega
      have e2 := step_i hil hm'
      have hv := hV k i hlt hil
      ((repeat ((conv => whnf); first | refine brT ?_ | refine brF ?_)); conv => whnf)
      refine ⟨i, ps[i].lv, rfl, by simp [hil], rfl, ?_⟩
      ((repeat ((conv => whnf); first | refine brT ?_ | refine brF ?_)); conv => whnf)
      refine ⟨true, by kernel_rfl, ?_⟩
      ((repeat ((conv => whnf); first | refine brT ?_ | refine brF ?_)); conv => whnf)
      refine ⟨_, sexOfStep_spec s, ?_⟩
      ((repeat ((conv => whnf); first | refine brT ?_ | refine brF ?_)); conv => whnf)
      (refine ⟨fun q => ?_, fun q => ?_⟩ <;> rw [q])
      · ((repeat ((conv => whnf); first | refine brT ?_ | refine brF ?_)); conv => whnf)
        refine ⟨_, link5_spec ps us k i, ?_⟩
        ((repeat ((conv => whnf); first | refine brT ?_ | refine brF ?_)); conv => whnf)
        (refine ⟨fun q2 => ?_, fun q2 => ?_⟩ <;> rw [q2])
        · have hvt : V k i = true := by rw [hv, q, q2]; rfl
          have ep := doneP_put (V := V) (k := k) hil
          rw [hvt] at ep
          ((repeat ((conv => whnf); first | refine brT ?_ | refine brF ?_)); conv => whnf)
          refine ⟨by simp [setsP_len], rfl, k, rfl, by simpa [setsP_len] using hlt, ?_⟩
          ((repeat ((conv => whnf); first | refine brT ?_ | refine brF ?_)); conv => whnf)
          refine ⟨[5], _, _, _, _, add_elem ps.length (doneP ps.length V k i) k i hlt hil hN ps.length (by simp [setsP_len]), rfl, ?_⟩
          ((repeat ((conv => whnf); first | refine brT ?_ | refine brF ?_)); conv => whnf)
          refine ⟨rfl, rfl, trivial, ?_⟩
          ((repeat ((conv => whnf); first | refine brT ?_ | refine brF ?_)); conv => whnf)
          refine round_end (i + 1) hil (by omega) ⟨?_, ⟨rfl, rfl, rfl, rfl, rfl, congrArg (fun P => Blk.arr 109 1 ((setsP ps.length P).map uLV)) ep, trivial⟩, rfl, rfl⟩
          ((repeat ((conv => whnf); first | refine ⟨e2, ?_⟩ | refine ⟨rfl, ?_⟩)); trivial)
        · have hvf : V k i = false := by rw [hv, q, q2]; rfl
          ((repeat ((conv => whnf); first | refine brT ?_ | refine brF ?_)); conv => whnf)
          refine round_end (i + 1) hil (by omega) ⟨?_, ⟨rfl, rfl, rfl, rfl, rfl, congrArg (fun P => Blk.arr 109 1 ((setsP ps.length P).map uLV)) (doneP_skip hil hvf), trivial⟩, rfl, rfl⟩
          ((repeat ((conv => whnf); first | refine ⟨e2, ?_⟩ | refine ⟨rfl, ?_⟩)); trivial)
      · have hvf : V k i = false := by rw [hv, q]; rfl
        ((repeat ((conv => whnf); first | refine brT ?_ | refine brF ?_)); conv => whnf)
        refine round_end (i + 1) hil (by omega) ⟨?_, ⟨rfl, rfl, rfl, rfl, rfl, congrArg (fun P => Blk.arr 109 1 ((setsP ps.length P).map uLV)) (doneP_skip hil hvf), trivial⟩, rfl, rfl⟩
        ((repeat ((conv => whnf); first | refine ⟨e2, ?_⟩ | refine ⟨rfl, ?_⟩)); trivial)
    · have hil : i = ps.length := by rw [ltI_f] at g2; omega
      subst hil
      subst hKK
      ((repeat ((conv => whnf); first | refine brT ?_ | refine brF ?_)); conv => whnf)
      refine round_end (k + 1) hlt (by omega) ⟨?_, ⟨rfl, rfl, rfl, rfl, rfl, congrArg (fun P => Blk.arr 109 1 ((setsP ps.length P).map uLV)) (doneP_row ps.length V k), trivial⟩, rfl, rfl⟩
      ((repeat ((conv => whnf); first | refine ⟨e1, ?_⟩ | refine ⟨rfl, ?_⟩)); trivial)
  · have h3 : k = ps.length := by rw [ltI_f] at g1; omega
    subst h3
    ((repeat ((conv => whnf); first | refine brT ?_ | refine brF ?_)); conv => whnf)
    exact ⟨[.hs 0 ps.length], rfl, rfl, .inr ⟨[.old 5], ⟨rfl, rfl, trivial⟩, ⟨rfl, rfl, trivial⟩, rfl⟩⟩
end Go.Proofs.Ytdppjbiphekgjaa

namespace Go.Proofs.Ytdppjbiphekgjaa
open Go.Lg
set_option maxHeartbeats 3200000
set_option maxRecDepth 10000
set_option linter.unusedVariables false
set_option linter.unusedSimpArgs false

/-! ### In a valid family both ways of following a step are one -/
theorem par_one {ps : List Per} {i : Nat} {x sx born : Int} (h : parentOk (ps.take i) x sx born = true) :
    (x = -1 ∨ (0 ≤ x ∧ x.toNat < ps.length)) ∧ ∀ (b : Nat) (hb : b < ps.length), x = (b : Int) → ps[b].sex = sx := by
  unfold parentOk at h
  simp only [Bool.or_eq_true, eqI_t, Bool.and_eq_true, leI_t] at h
  rcases h with h | ⟨h0, h1⟩
  · exact ⟨.inl h, fun b hb e => by omega⟩
  · split at h1
    · cases h1
    · rename_i q hq
      obtain ⟨hl, e⟩ := List.getElem?_eq_some_iff.1 hq
      simp only [Bool.and_eq_true, eqI_t] at h1
      rw [List.length_take] at hl
      rw [List.getElem_take] at e
      refine ⟨.inr ⟨h0, by omega⟩, fun b hb ex => ?_⟩
      have eb : x.toNat = b := by omega
      subst eb
      rw [e]
      exact h1.1
theorem par_sex {ps : List Per} {us : List Uni} (h : famOk ps us = true) {i : Nat} (hi : i < ps.length) :
    ((ps[i].father = -1 ∨ (0 ≤ ps[i].father ∧ ps[i].father.toNat < ps.length)) ∧ ∀ (b : Nat) (hb : b < ps.length), ps[i].father = (b : Int) → ps[b].sex = 1) ∧
    ((ps[i].mother = -1 ∨ (0 ≤ ps[i].mother ∧ ps[i].mother.toNat < ps.length)) ∧ ∀ (b : Nat) (hb : b < ps.length), ps[i].mother = (b : Int) → ps[b].sex = 2) := by
  obtain ⟨_, _, hp, _, _⟩ := famOk_parts h
  obtain ⟨_, _, _, _, _, _, p1, p2⟩ := personOk_spec (personsTo_get hp hi hi)
  exact ⟨par_one p1, par_one p2⟩
theorem uni_sex {ps : List Per} {us : List Uni} (h : famOk ps us = true) {u : Uni} (hu : u ∈ us) :
    (∀ (b : Nat) (hb : b < ps.length), u.husband = (b : Int) → ps[b].sex = 1) ∧ (∀ (b : Nat) (hb : b < ps.length), u.wife = (b : Int) → ps[b].sex = 2) := by
  obtain ⟨k, hk, rfl⟩ := List.getElem_of_mem hu
  obtain ⟨_, _, hp, hus, _⟩ := famOk_parts h
  have hok : unionOk ps (us.take k) us[k] = true := by
    cases e : unionOk ps (us.take k) us[k] with
    | true => rfl
    | false => rw [unionsTo_no hk hk e] at hus; cases hus
  unfold unionOk at hok
  simp only [Bool.and_eq_true] at hok
  obtain ⟨⟨h1, h2⟩, _⟩ := hok
  obtain ⟨m0, ml, m⟩ := ofSex_lt h1
  obtain ⟨w0, wl, w⟩ := ofSex_lt h2
  constructor
  · intro b hb e
    have eb : us[k].husband.toNat = b := by omega
    subst eb; exact m
  · intro b hb e
    have eb : us[k].wife.toNat = b := by omega
    subst eb; exact w

/-- A father is no one's mother. -/
theorem far {ps : List Per} {us : List Uni} (h : famOk ps us = true) {i j : Nat} (hi : i < ps.length) (hj : j < ps.length) (e : ps[i].father ≠ -1) : ps[i].father ≠ ps[j].mother := by
  obtain ⟨⟨f1, f2⟩, _⟩ := par_sex h hi
  obtain ⟨_, _, m2⟩ := par_sex h hj
  intro k
  rcases f1 with f1 | ⟨f0, fl⟩
  · exact e f1
  · have a1 := f2 _ fl (by omega)
    have a2 := m2 _ fl (by omega)
    omega

theorem comN_two (x y : Per) : (eqI ((comN x y : Nat) : Int) 2) = (notB (eqI x.father (-1)) && (comB y x.father && (notB (eqI x.mother (-1)) && comB y x.mother))) := by
  show eqI (((([x.father, x.mother].filter notNone).filter (comB y)).length : Nat) : Int) 2 = (notNone x.father && (comB y x.father && (notNone x.mother && comB y x.mother)))
  cases h1 : notNone x.father <;> cases h2 : notNone x.mother <;> cases h3 : comB y x.father <;> cases h4 : comB y x.mother <;> simp [-List.filter_filter, List.filter_cons, h1, h2, h3, h4, eqI_d]
theorem any_ext {α : Type} {p q : α → Bool} : ∀ {l : List α}, (∀ u ∈ l, p u = q u) → l.any p = l.any q
  | [], _ => rfl
  | u :: l, h => by rw [List.any_cons, List.any_cons, h u (by simp), any_ext (l := l) fun v hv => h v (by simp [hv])]

theorem sib_full {ps : List Per} {us : List Uni} (h : famOk ps us = true) {a b : Nat} (ha : a < ps.length) (hb : b < ps.length) : sibB ps[a] ps[b] a b = fullB ps[a] ps[b] a b := by
  unfold sibB fullB
  rw [comN_two]
  have f1 := (par_sex h ha).1.1
  have f2 := (par_sex h ha).2.1
  have f3 := fun e => far h ha hb e
  have f4 := fun e => far h hb ha e
  have f5 := fun e => far h ha ha e
  unfold comB
  simp only [eqI_d, leI_d, notB_d]
  generalize ps[a].father = F at *
  generalize ps[a].mother = M at *
  generalize ps[b].father = F' at *
  generalize ps[b].mother = M' at *
  rw [Bool.eq_iff_iff]
  simp only [Bool.and_eq_true, Bool.or_eq_true, Bool.not_eq_true', decide_eq_true_eq, decide_eq_false_iff_not]
  constructor
  · rintro ⟨n, h1, h2, h3, h4⟩
    refine ⟨n, by omega, by omega, ?_, ?_⟩
    · have := f3 h1; omega
    · by_cases e : F' = -1
      · omega
      · have := f4 e; omega
  · rintro ⟨n, h1, h2, h3, h4⟩
    exact ⟨n, by omega, by omega, by omega, by omega⟩
theorem age_eq (ps : List Per) (g a b : Int) : ageX ps g a b = ageB ps g a b := by
  unfold ageX ageB
  simp only [eqI_d, notB_d]
  by_cases h1 : g = 1
  · subst h1; simp
  · by_cases h2 : g = 2
    · subst h2; simp
    · simp [h1, h2]

section
variable {ps : List Per} {us : List Uni} {s : Pr} (h : famOk ps us = true)
include h
theorem same_a (hk : (eqI s.a 1 || eqI s.a 2) = true) (a b : Nat) (ha : a < ps.length) (hb : b < ps.length) : l3P ps us s a b = (eqI ps[b].sex (sxOf s.a) && chB ps[a] b) := by
  have f1 := (par_sex h ha).1.2 b hb
  have f2 := (par_sex h ha).2.2 b hb
  simp only [l3P, List.getElem?_eq_getElem ha, List.getElem?_eq_getElem hb, kinB, chB]
  simp only [Bool.or_eq_true, eqI_t] at hk
  rcases hk with e | e
  · have e1 : sxOf s.a = 1 := by rw [e]; simp [sxOf, eqI_d]
    rw [e1, e]
    simp only [eqI_d]
    rw [Bool.eq_iff_iff]
    simp only [Bool.and_eq_true, Bool.or_eq_true, decide_eq_true_eq, decide_true]
    constructor
    · rintro ⟨h1, h2⟩; exact ⟨h1, .inl h2⟩
    · rintro ⟨h1, h2 | h2⟩
      · exact ⟨h1, h2⟩
      · have := f2 h2; omega
  · have e1 : sxOf s.a = 2 := by rw [e]; simp [sxOf, eqI_d]
    rw [e1, e]
    simp only [eqI_d]
    rw [Bool.eq_iff_iff]
    simp
    intro h1 h2
    have := f1 h2; omega
theorem same_b (h1 : eqI s.a 1 = false) (h2 : eqI s.a 2 = false) (hk : (eqI s.a 3 || eqI s.a 4) = true) (a b : Nat) (ha : a < ps.length) (hb : b < ps.length) :
    l3P ps us s a b = (eqI ps[b].sex (sxOf s.a) && (sibB ps[a] ps[b] a b && ageX ps s.b a b)) := by
  simp only [l3P, List.getElem?_eq_getElem ha, List.getElem?_eq_getElem hb, kinB, h1, h2]
  have e5 : (eqI s.a 5 || eqI s.a 6) = false := by simp only [eqI_d] at *; simp only [Bool.or_eq_true, decide_eq_true_eq] at hk; simp; omega
  have e7 : (eqI s.a 7 || eqI s.a 8) = false := by simp only [eqI_d] at *; simp only [Bool.or_eq_true, decide_eq_true_eq] at hk; simp; omega
  simp only [e5, e7]
  rw [sib_full h ha hb, age_eq, Bool.and_comm (fullB _ _ _ _)]
omit h in
theorem same_c (h1 : eqI s.a 1 = false) (h2 : eqI s.a 2 = false) (hk : (eqI s.a 5 || eqI s.a 6) = true) (a b : Nat) (ha : a < ps.length) (hb : b < ps.length) :
    l3P ps us s a b = (eqI ps[b].sex (sxOf s.a) && chB ps[b] a) := by
  simp only [l3P, List.getElem?_eq_getElem ha, List.getElem?_eq_getElem hb, kinB, h1, h2, hk, chB]
theorem same_d (h7 : eqI s.a 7 = true) (a b : Nat) (ha : a < ps.length) (hb : b < ps.length) :
    l3P ps us s a b = (eqI ps[b].sex (sxOf s.a) && us.any (unitedOf b a)) := by
  rw [eqI_t] at h7
  have e1 : sxOf s.a = 1 := by rw [h7]; simp [sxOf, eqI_d]
  simp only [l3P, List.getElem?_eq_getElem ha, List.getElem?_eq_getElem hb, kinB, e1]
  rw [h7]
  simp only [eqI_d]
  by_cases hs : ps[b].sex = 1
  · simp only [hs]
    congr 1
    show us.any (wedB a b) = us.any (unitedOf b a)
    refine any_ext fun u hu => ?_
    have m1 := (uni_sex h hu).1 a ha
    have m2 := (uni_sex h hu).2 a ha
    have w2 := (uni_sex h hu).2 b hb
    unfold wedB unitedOf
    simp only [eqI_d]
    rw [Bool.eq_iff_iff]
    by_cases hh : u.husband = (a : Int)
    · have n1 : ¬ u.wife = (b : Int) := fun e => by have := w2 e; omega
      have n2 : ¬ u.wife = (a : Int) := fun e => by have := m1 hh; have := m2 e; omega
      simp [hh, n1, n2]
    · simp [hh, and_comm]
  · simp [hs]
theorem same_e (h8 : eqI s.a 8 = true) (a b : Nat) (ha : a < ps.length) (hb : b < ps.length) :
    l3P ps us s a b = (eqI ps[b].sex (sxOf s.a) && us.any (unitedOf a b)) := by
  rw [eqI_t] at h8
  have e1 : sxOf s.a = 2 := by rw [h8]; simp [sxOf, eqI_d]
  simp only [l3P, List.getElem?_eq_getElem ha, List.getElem?_eq_getElem hb, kinB, e1]
  rw [h8]
  simp only [eqI_d]
  by_cases hs : ps[b].sex = 2
  · simp only [hs]
    congr 1
    show us.any (wedB a b) = us.any (unitedOf a b)
    refine any_ext fun u hu => ?_
    have m1 := (uni_sex h hu).1 b hb
    unfold wedB unitedOf
    simp only [eqI_d]
    rw [Bool.eq_iff_iff]
    by_cases hh : u.husband = (a : Int)
    · simp [hh]
    · have n1 : ¬ u.husband = (b : Int) := fun e => by have := m1 e; omega
      simp [hh, n1]
  · simp [hs]
end

/-- What impl reaches, by one predicate, whatever the kind. -/
theorem reachOf_h (ps : List Per) (us : List Uni) (s : Pr) (h : famOk ps us = true) (hs : stepB s.a s.b 0 = true) :
    HSpec env.P 67 [famLV ps us, s.lv] [] (.hs 0 ps.length) [.arr 109 1 ((setsP ps.length (doneP ps.length (l3P ps us s) ps.length 0)).map uLV)] := by
  have hN := (famOk_parts h).1
  cases h12 : (eqI s.a 1 || eqI s.a 2)
  rotate_left
  · exact reachOf_a ps us s hN h12 _ (fun a b ha hb => same_a h h12 a b ha hb)
  obtain ⟨h1, h2⟩ := Bool.or_eq_false_iff.1 h12
  cases h34 : (eqI s.a 3 || eqI s.a 4)
  rotate_left
  · exact reachOf_b ps us s hN h1 h2 h34 _ (fun a b ha hb => same_b h h1 h2 h34 a b ha hb)
  obtain ⟨h3, h4⟩ := Bool.or_eq_false_iff.1 h34
  cases h56 : (eqI s.a 5 || eqI s.a 6)
  rotate_left
  · exact reachOf_c ps us s hN h1 h2 h3 h4 h56 _ (fun a b ha hb => same_c h1 h2 h56 a b ha hb)
  obtain ⟨h5, h6⟩ := Bool.or_eq_false_iff.1 h56
  cases h7 : eqI s.a 7
  · have h8 : eqI s.a 8 = true := by
      unfold stepB at hs
      simp only [h1, h2, h3, h4, h5, h6, h7] at hs
      simp only [Bool.or_false, Bool.false_and, Bool.false_or, Bool.or_self, Bool.and_eq_true] at hs
      exact hs.1
    exact reachOf_e ps us s hN h1 h2 h3 h4 h5 h6 h7 _ (fun a b ha hb => same_e h h8 a b ha hb)
  · exact reachOf_d ps us s hN h1 h2 h3 h4 h5 h6 h7 _ (fun a b ha hb => same_d h h7 a b ha hb)
theorem implStep_h (ps : List Per) (us : List Uni) (s : Pr) :
    HSpec env.P 16 [famLV ps us, s.lv] [] (relHS (stepN ps us s) 0 ((relRows (stepN ps us s) (l3P ps us s)).map rowOw).length) [.tree 58 1 ((relRows (stepN ps us s) (l3P ps us s)).map rowOw)] := by
  refine HSpec_of_code (E := env.x [67, 66] 0) env_ok.x (fn := Try.f16) Try.func16 rfl Try.call16 _ _ _ _ ?_
  have hno : (famOk ps us && stepB s.a s.b 0) = false → stepN ps us s = 0 := fun h => by unfold stepN; rw [h]
  ((repeat ((conv => whnf); first | refine brT ?_ | refine brF ?_)); conv => whnf)
  refine ⟨_, isFamily_impl ps us, ?_⟩
  ((repeat ((conv => whnf); first | refine brT ?_ | refine brF ?_)); conv => whnf)
  (refine ⟨fun h => ?_, fun h => ?_⟩ <;> rw [h])
  · rw [notB_t] at h
    rw [hno (by rw [h]; rfl)]
    ((repeat ((conv => whnf); first | refine brT ?_ | refine brF ?_)); conv => whnf)
    exact ⟨[relHS 0 0 0], rfl, rfl, .nl [.tmp 0 [1] true 58 1] [.old 3] ⟨⟨rfl, rfl, trivial⟩, ⟨rfl, rfl, trivial⟩, rfl⟩⟩
  rw [notB_f] at h
  ((repeat ((conv => whnf); first | refine brT ?_ | refine brF ?_)); conv => whnf)
  refine ⟨_, isStepFrom_spec 0 s, ?_⟩
  ((repeat ((conv => whnf); first | refine brT ?_ | refine brF ?_)); conv => whnf)
  (refine ⟨fun h2 => ?_, fun h2 => ?_⟩ <;> rw [h2])
  · rw [notB_t] at h2
    rw [hno (by rw [h, h2]; rfl)]
    ((repeat ((conv => whnf); first | refine brT ?_ | refine brF ?_)); conv => whnf)
    exact ⟨[relHS 0 0 0], rfl, rfl, .nl [.tmp 0 [1] true 58 1] [.old 3] ⟨⟨rfl, rfl, trivial⟩, ⟨rfl, rfl, trivial⟩, rfl⟩⟩
  rw [notB_f] at h2
  rw [show stepN ps us s = ps.length by unfold stepN; rw [h, h2]; rfl]
  have hN := (famOk_parts h).1
  ((repeat ((conv => whnf); first | refine brT ?_ | refine brF ?_)); conv => whnf)
  refine ⟨[], _, _, _, _, reachOf_h ps us s h h2, rfl, rfl, rfl, trivial, ?_⟩
  ((repeat ((conv => whnf); first | refine brT ?_ | refine brF ?_)); conv => whnf)
  have hR := relationOfSets_P ps.length (doneP ps.length (l3P ps us s) ps.length 0) hN
  rw [show relRows ps.length (doneP ps.length (l3P ps us s) ps.length 0) = relRows ps.length (l3P ps us s) from relRows_ext (doneP_all ps.length (l3P ps us s))] at hR
  refine ⟨[], _, _, _, _, hR, rfl, ?_⟩
  ((repeat ((conv => whnf); first | refine brT ?_ | refine brF ?_)); conv => whnf)
  refine ⟨by simp [setsP_len], ?_⟩
  ((repeat ((conv => whnf); first | refine brT ?_ | refine brF ?_)); conv => whnf)
  refine ⟨rfl, rfl, ⟨rfl, flatTs_rows _, trivial⟩, ?_⟩
  ((repeat ((conv => whnf); first | refine brT ?_ | refine brF ?_)); conv => whnf)
  refine ⟨[relHS ps.length 0 ((relRows ps.length (l3P ps us s)).map rowOw).length], rfl, rfl, .inr ⟨[.old 4], ⟨rfl, rfl, trivial⟩, ⟨rfl, rfl, trivial⟩, rfl⟩⟩
end Go.Proofs.Ytdppjbiphekgjaa

namespace Go.Proofs.Ytdppjbiphekgjaa
open Go.Lg
set_option maxHeartbeats 6400000
set_option maxRecDepth 10000
set_option linter.unusedVariables false
set_option linter.unusedSimpArgs false

theorem stepN_le {ps : List Per} {us : List Uni} {s : Pr} : stepN ps us s ≤ 40 := by
  unfold stepN
  cases h : famOk ps us
  · simp
  · have := (famOk_parts h).1
    cases stepB s.a s.b 0 <;> simp <;> omega
theorem WeakS.idn {n0 : Nat} {ts : List LV} {H : List Blk} (h1 : wk ts ts) (h2 : wkH n0 H H) (h3 : (scs (below H.length) ts && H.all (scB (below H.length))) = true) : Weak n0 ts H ts H := by
  simp only [Bool.and_eq_true] at h3
  exact .inl ⟨h1, h2, h3.1, h3.2⟩
theorem law_stepRelation (ps : List Per) (us : List Uni) (s : Pr) (hf : FamOK ps us) : FSpec env.P 3 [famLV ps us, s.lv] (.bool true) := by
  refine FSpec_of_code (E := env.x [14, 16, 19, 20] 0) env_ok.x (fn := Try.f3) Try.func3 rfl Try.call3 _ _ ?_
  have hR := tot_relRows (P := l3P ps us s) (stepN_le (ps := ps) (us := us) (s := s))
  have hS := rel_f (specStep_h ps us s)
  have hI := implStep_h ps us s
  generalize hRR : relRows (stepN ps us s) (l3P ps us s) = R at hR hS hI
  generalize hNN : stepN ps us s = N at hS hI
  have hJ := rel_f hI
  ((repeat ((conv => whnf); first | refine brT ?_ | refine brF ?_)); conv => whnf)
  refine ⟨_, szFamily_spec ps us _, ?_⟩
  ((repeat ((conv => whnf); first | refine brT ?_ | refine brF ?_)); conv => whnf)
  (refine ⟨fun h => ?_, fun h => ?_⟩ <;> rw [h])
  · ((repeat ((conv => whnf); first | refine brT ?_ | refine brF ?_)); conv => whnf); exact fin rfl
  rw [ltI_f] at h
  obtain ⟨p1, u1, s1⟩ := szFam_ok (by omega) (by omega) hf h
  ((repeat ((conv => whnf); first | refine brT ?_ | refine brF ?_)); conv => whnf)
  refine ⟨true, by kernel_rfl, ?_⟩
  ((repeat ((conv => whnf); first | refine brT ?_ | refine brF ?_)); conv => whnf)
  refine ⟨_, toFamily_spec ps us p1 u1, ?_⟩
  ((repeat ((conv => whnf); first | refine brT ?_ | refine brF ?_)); conv => whnf)
  refine ⟨_, toStep_spec s, ?_⟩
  ((repeat ((conv => whnf); first | refine brT ?_ | refine brF ?_)); conv => whnf)
  refine ⟨_, hS, ?_⟩
  ((repeat ((conv => whnf); first | refine brT ?_ | refine brF ?_)); conv => whnf)
  refine ⟨[], _, _, _, _, toFamily_hm ps us p1 u1, rfl, rfl, rfl, trivial, ?_⟩
  ((repeat ((conv => whnf); first | refine brT ?_ | refine brF ?_)); conv => whnf)
  refine ⟨false, 0, 0, 0, [0, 1], (.alt 2 (.alt 3 (.one 4 (.one 5 .done)) (.one 4 (.one 3 (.one 5 .done)))) (.one 4 (.one 2 (.one 3 (.one 5 .done))))), by kernel_rfl, ?_⟩
  ((repeat ((conv => whnf); first | refine brT ?_ | refine brF ?_)); conv => whnf)
  apply Exists.intro
  apply Exists.intro
  refine And.intro ?_ ?_
  · refine And.intro ?_ ?_
    · ((repeat ((conv => whnf); first | refine brT ?_ | refine brF ?_)); conv => whnf)
      refine ⟨_, toStep_spec s, ?_⟩
      ((repeat ((conv => whnf); first | refine brT ?_ | refine brF ?_)); conv => whnf)
      refine And.intro ?_ ?_
      · ((repeat ((conv => whnf); first | refine brT ?_ | refine brF ?_)); conv => whnf)
        refine ⟨_, _, _, _, hI, rfl, ?_⟩
        ((repeat ((conv => whnf); first | refine brT ?_ | refine brF ?_)); conv => whnf)
        refine ⟨rfl, ?_⟩
        ((repeat ((conv => whnf); first | refine brT ?_ | refine brF ?_)); conv => whnf)
        refine ⟨rfl, ?_⟩
        ((repeat ((conv => whnf); first | refine brT ?_ | refine brF ?_)); conv => whnf)
        refine ⟨rfl, rfl, ⟨rfl, flatTs_rows _, trivial⟩, ?_⟩
        ((repeat ((conv => whnf); first | refine brT ?_ | refine brF ?_)); conv => whnf)
        refine WeakS.idn ?_ ?_ rfl
        · ((repeat ((conv => whnf); refine ⟨rfl, ?_⟩)); trivial)
        · exact ⟨rfl, rfl, rfl, rfl, rfl, rfl, rfl, rfl, trivial⟩
      · ((repeat ((conv => whnf); first | refine brT ?_ | refine brF ?_)); conv => whnf)
        refine ⟨_, _, _, _, hI, rfl, ?_⟩
        ((repeat ((conv => whnf); first | refine brT ?_ | refine brF ?_)); conv => whnf)
        refine ⟨rfl, ?_⟩
        ((repeat ((conv => whnf); first | refine brT ?_ | refine brF ?_)); conv => whnf)
        refine ⟨rfl, ?_⟩
        ((repeat ((conv => whnf); first | refine brT ?_ | refine brF ?_)); conv => whnf)
        refine ⟨rfl, rfl, ⟨rfl, flatTs_rows _, trivial⟩, ?_⟩
        ((repeat ((conv => whnf); first | refine brT ?_ | refine brF ?_)); conv => whnf)
        refine .inr ⟨[.old 0, .old 1, .old 2, .old 3, .old 4, .old 5, .old 7, .old 6], ?_, ⟨rfl, rfl, rfl, rfl, rfl, rfl, rfl, rfl, rfl, rfl, rfl, rfl, rfl, rfl, rfl, rfl, trivial⟩, rfl⟩
        ((repeat ((conv => whnf); refine ⟨rfl, rfl, ?_⟩)); trivial)
    · ((repeat ((conv => whnf); first | refine brT ?_ | refine brF ?_)); conv => whnf)
      refine ⟨_, toStep_spec s, ?_⟩
      ((repeat ((conv => whnf); first | refine brT ?_ | refine brF ?_)); conv => whnf)
      refine ⟨_, _, _, _, hI, rfl, ?_⟩
      ((repeat ((conv => whnf); first | refine brT ?_ | refine brF ?_)); conv => whnf)
      refine ⟨rfl, ?_⟩
      ((repeat ((conv => whnf); first | refine brT ?_ | refine brF ?_)); conv => whnf)
      refine ⟨rfl, ?_⟩
      ((repeat ((conv => whnf); first | refine brT ?_ | refine brF ?_)); conv => whnf)
      refine ⟨rfl, rfl, ⟨rfl, flatTs_rows _, trivial⟩, ?_⟩
      ((repeat ((conv => whnf); first | refine brT ?_ | refine brF ?_)); conv => whnf)
      refine .inr ⟨[.old 0, .old 1, .old 2, .old 3, .old 4, .old 5, .old 7, .old 6], ?_, ⟨rfl, rfl, rfl, rfl, rfl, rfl, rfl, rfl, rfl, rfl, rfl, rfl, rfl, rfl, rfl, rfl, trivial⟩, rfl⟩
      ((repeat ((conv => whnf); refine ⟨rfl, rfl, ?_⟩)); trivial)
  ((repeat ((conv => whnf); first | refine brT ?_ | refine brF ?_)); conv => whnf)
  refine ⟨rfl, _, dms_rows _, ?_⟩
  ((repeat ((conv => whnf); first | refine brT ?_ | refine brF ?_)); conv => whnf)
  refine ⟨_, eqRelation_spec _ _ _ _, ?_⟩
  rw [eqRel_refl]
  ((repeat ((conv => whnf); first | refine brT ?_ | refine brF ?_)); conv => whnf)
  rw [show notB true = false by simp [notB]]
  ((repeat ((conv => whnf); first | refine brT ?_ | refine brF ?_)); conv => whnf)
  refine ⟨true, by kernel_rfl, ?_⟩
  ((repeat ((conv => whnf); first | refine brT ?_ | refine brF ?_)); conv => whnf)
  refine ⟨_, toFamily_spec ps us p1 u1, ?_⟩
  ((repeat ((conv => whnf); first | refine brT ?_ | refine brF ?_)); conv => whnf)
  refine ⟨rfl, ?_⟩
  ((repeat ((conv => whnf); first | refine brT ?_ | refine brF ?_)); conv => whnf)
  refine ⟨rfl, ?_⟩
  ((repeat ((conv => whnf); first | refine brT ?_ | refine brF ?_)); conv => whnf)
  refine ⟨_, eqFamily_spec ps ps us us, ?_⟩
  rw [eqFam_refl]
  ((repeat ((conv => whnf); first | refine brT ?_ | refine brF ?_)); conv => whnf)
  rw [show notB true = false by simp [notB]]
  ((repeat ((conv => whnf); first | refine brT ?_ | refine brF ?_)); conv => whnf)
  refine ⟨[3, 4], _, _, _, _, markFamily_hm ps us 1 (by omega), rfl, rfl, rfl, trivial, ?_⟩
  ((repeat ((conv => whnf); first | refine brT ?_ | refine brF ?_)); conv => whnf)
  rw [show ltI ((1 + 6 * ps.length + 4 * us.length : Nat) : Int) 0 = false by rw [ltI_f]; omega]
  ((repeat ((conv => whnf); first | refine brT ?_ | refine brF ?_)); conv => whnf)
  refine ⟨rfl, _, dms_rows _, ?_⟩
  ((repeat ((conv => whnf); first | refine brT ?_ | refine brF ?_)); conv => whnf)
  refine ⟨_, eqRelation_spec _ _ _ _, ?_⟩
  rw [eqRel_refl]
  ((repeat ((conv => whnf); first | refine brT ?_ | refine brF ?_)); conv => whnf)
  rw [show notB true = false by simp [notB]]
  ((repeat ((conv => whnf); first | refine brT ?_ | refine brF ?_)); conv => whnf)
  refine ⟨[6], _, _, _, _, markRelation_spec _ _ _ rfl 1 (by omega) (by omega), rfl, rfl, rfl, trivial, ?_⟩
  ((repeat ((conv => whnf); first | refine brT ?_ | refine brF ?_)); conv => whnf)
  refine ⟨by simp [markRows_len], _, dms_rows _, ?_⟩
  ((repeat ((conv => whnf); first | refine brT ?_ | refine brF ?_)); conv => whnf)
  refine ⟨_, heldRelation_spec _ R 1 (by omega) (by omega), ?_⟩
  ((repeat ((conv => whnf); first | refine brT ?_ | refine brF ?_)); conv => whnf)
  rw [show ltI (1 + (tot R : Int)) 0 = false by rw [ltI_f]; omega]
  ((repeat ((conv => whnf); first | refine brT ?_ | refine brF ?_)); conv => whnf)
  rw [eqI_refl, show notB true = false by simp [notB]]
  ((repeat ((conv => whnf); first | refine brT ?_ | refine brF ?_)); conv => whnf)
  refine ⟨true, by kernel_rfl, ?_⟩
  ((repeat ((conv => whnf); first | refine brT ?_ | refine brF ?_)); conv => whnf)
  refine ⟨_, toFamily_spec ps us p1 u1, ?_⟩
  ((repeat ((conv => whnf); first | refine brT ?_ | refine brF ?_)); conv => whnf)
  refine ⟨_, toStep_spec s, ?_⟩
  ((repeat ((conv => whnf); first | refine brT ?_ | refine brF ?_)); conv => whnf)
  refine ⟨_, hJ, ?_⟩
  ((repeat ((conv => whnf); first | refine brT ?_ | refine brF ?_)); conv => whnf)
  refine ⟨_, eqRelation_spec _ _ _ _, ?_⟩
  rw [eqRel_refl]
  ((repeat ((conv => whnf); first | refine brT ?_ | refine brF ?_)); conv => whnf)
  rw [show notB true = false by simp [notB]]
  ((repeat ((conv => whnf); first | refine brT ?_ | refine brF ?_)); conv => whnf)
  refine ⟨by simp [markRows_len], _, dms_rows _, ?_⟩
  ((repeat ((conv => whnf); first | refine brT ?_ | refine brF ?_)); conv => whnf)
  refine ⟨_, heldRelation_spec _ R 1 (by omega) (by omega), ?_⟩
  ((repeat ((conv => whnf); first | refine brT ?_ | refine brF ?_)); conv => whnf)
  rw [show ltI (1 + (tot R : Int)) 0 = false by rw [ltI_f]; omega]
  ((repeat ((conv => whnf); first | refine brT ?_ | refine brF ?_)); conv => whnf)
  rw [eqI_refl, show notB true = false by simp [notB]]
  ((repeat ((conv => whnf); first | refine brT ?_ | refine brF ?_)); conv => whnf)
  exact fin rfl
end Go.Proofs.Ytdppjbiphekgjaa

namespace Go.Proofs.Ytdppjbiphekgjaa
open Go.Lg Go.RowKit Go.ChangeShapes Go.WideShapes Go.Deep Go.Joins
set_option linter.unusedVariables false
set_option linter.unusedSimpArgs false
set_option maxRecDepth 100000

theorem per_of_shape : ∀ {ls : List LV}, shapeK [.str, .int .i64, .int .i64, .int .i64, .int .i64, .int .i64] ls → ∃ p : Per, LV.st ls = p.lv ∧ p.name.size ≤ maxLen
  | [a, b, c, d, e, f], h => by
    obtain ⟨⟨s, rfl, hs⟩, ⟨n1, rfl⟩, ⟨n2, rfl⟩, ⟨n3, rfl⟩, ⟨n4, rfl⟩, ⟨n5, rfl⟩, _⟩ := h
    exact ⟨⟨s, n1, n2, n3, n4, n5⟩, rfl, hs⟩
theorem uni_of_shape : ∀ {ls : List LV}, shapeK [.int .i64, .int .i64, .int .i64, .int .i64] ls → ∃ p : Uni, LV.st ls = p.lv ∧ True
  | [b, c, d, e], h => by
    obtain ⟨⟨n1, rfl⟩, ⟨n2, rfl⟩, ⟨n3, rfl⟩, ⟨n4, rfl⟩, _⟩ := h
    exact ⟨⟨n1, n2, n3, n4⟩, rfl, trivial⟩
theorem list_of {α : Type} {lv : α → LV} {Q : α → Prop} : ∀ (xs : List LV), (∀ x ∈ xs, ∃ p, x = lv p ∧ Q p) → ∃ ps : List α, xs = ps.map lv ∧ ∀ p ∈ ps, Q p
  | [], _ => ⟨[], rfl, by simp⟩
  | x :: xs, h => by
    obtain ⟨p, rfl, hp⟩ := h x (by simp)
    obtain ⟨ps, rfl, hps⟩ := list_of xs fun y hy => h y (by simp [hy])
    exact ⟨p :: ps, rfl, List.forall_mem_cons.2 ⟨hp, hps⟩⟩

section
variable {H : Type} {enc : TypeId × Value → H} {w : World}
theorem fam_of_arg {b0 : Nat} {r : Reach} {v : Value} {d : DataW H} {p : List MemPlace} (hv : Value.okWide Try.prog w r b0 25 v) (h : DataW.Trod enc Try.prog w 0 (fun _ => true) true 25 v d p) :
    ∃ ps us, FamOK ps us ∧ RT (pctx (fun _ => False) w) (famLV ps us) v := by
  obtain ⟨v0, v1, y0, y1, n, rfl, _, _, h0, h1⟩ := open_agg2 Try.underlying25 (by kernel_rfl) (by kernel_rfl) hv h
  obtain ⟨xs, r0, l0, s0⟩ := sl_of_rows (O := fun _ => False) (fun _ h => h) (ks := [.str, .int .i64, .int .i64, .int .i64, .int .i64, .int .i64]) Try.underlying22 Try.underlying142 (by kernel_rfl) (by kernel_rfl) (fieldsK_of (by kernel_rfl)) (by decide) h0
  obtain ⟨ys, r1, l1, s1⟩ := sl_of_rows (O := fun _ => False) (fun _ h => h) (ks := [.int .i64, .int .i64, .int .i64, .int .i64]) Try.underlying23 Try.underlying149 (by kernel_rfl) (by kernel_rfl) (fieldsK_of (by kernel_rfl)) (by decide) h1
  obtain ⟨ps, rfl, hps⟩ := list_of (lv := Per.lv) (Q := fun p => p.name.size ≤ maxLen) xs fun x hx => by obtain ⟨ls, rfl, hs⟩ := s0 x hx; exact per_of_shape hs
  obtain ⟨us, rfl, _⟩ := list_of (lv := Uni.lv) (Q := fun _ => True) ys fun x hx => by obtain ⟨ls, rfl, hs⟩ := s1 x hx; exact uni_of_shape hs
  refine ⟨ps, us, ⟨by simpa using l0, by simpa using l1, hps⟩, #[v0, v1], rfl, [v0], [v1], rfl, r0, [v1], [], rfl, r1, by simp [RCs]⟩
end
end Go.Proofs.Ytdppjbiphekgjaa

namespace Go.Proofs.Ytdppjbiphekgjaa
open Go.Lg
set_option maxRecDepth 10000
set_option linter.unusedVariables false
set_option linter.unusedSimpArgs false

/-! ### A family, out of an argument's shape -/
abbrev shPer : Sh := .st [.str, .int .i64, .int .i64, .int .i64, .int .i64, .int .i64]
abbrev shUni : Sh := .st [.int .i64, .int .i64, .int .i64, .int .i64]
abbrev shFam : Sh := .st [.sl (.st [.str, .int .i64, .int .i64, .int .i64, .int .i64, .int .i64]), .sl (.st [.int .i64, .int .i64, .int .i64, .int .i64])]
theorem per_of_sh {x : LV} (h : hasSh shPer x) : ∃ p : Per, x = p.lv ∧ p.name.size ≤ maxLen := by
  simp only [hasSh] at h
  obtain ⟨xs, rfl, h⟩ := h
  match xs, h with
  | [a, b, c, d, e, f], h =>
    simp only [hasShs, hasSh] at h
    obtain ⟨⟨s, rfl, hs⟩, ⟨n1, rfl⟩, ⟨n2, rfl⟩, ⟨n3, rfl⟩, ⟨n4, rfl⟩, ⟨n5, rfl⟩, _⟩ := h
    exact ⟨⟨s, n1, n2, n3, n4, n5⟩, rfl, hs⟩
  | [], h => simp [hasShs] at h
  | [_], h => simp [hasShs] at h
  | [_, _], h => simp [hasShs] at h
  | [_, _, _], h => simp [hasShs] at h
  | [_, _, _, _], h => simp [hasShs] at h
  | [_, _, _, _, _], h => simp [hasShs] at h
  | _ :: _ :: _ :: _ :: _ :: _ :: _ :: _, h => simp [hasShs] at h
theorem uni_of_sh {x : LV} (h : hasSh shUni x) : ∃ u : Uni, x = u.lv ∧ True := by
  simp only [hasSh] at h
  obtain ⟨xs, rfl, h⟩ := h
  match xs, h with
  | [a, b, c, d], h =>
    simp only [hasShs, hasSh] at h
    obtain ⟨⟨n1, rfl⟩, ⟨n2, rfl⟩, ⟨n3, rfl⟩, ⟨n4, rfl⟩, _⟩ := h
    exact ⟨⟨n1, n2, n3, n4⟩, rfl, trivial⟩
  | [], h => simp [hasShs] at h
  | [_], h => simp [hasShs] at h
  | [_, _], h => simp [hasShs] at h
  | [_, _, _], h => simp [hasShs] at h
  | _ :: _ :: _ :: _ :: _ :: _, h => simp [hasShs] at h
theorem fam_of_sh {x : LV} (h : hasSh shFam x) : ∃ (ps : List Per) (us : List Uni), x = famLV ps us ∧ FamOK ps us := by
  simp only [hasSh] at h
  obtain ⟨xs, rfl, h⟩ := h
  match xs, h with
  | [a, b], h =>
    simp only [hasShs, hasSh] at h
    obtain ⟨⟨ys, rfl, hl, hy⟩, ⟨zs, rfl, hm, hz⟩, _⟩ := h
    obtain ⟨ps, rfl, hps⟩ := list_of (lv := Per.lv) (Q := fun p => p.name.size ≤ maxLen) ys fun y hy' => per_of_sh (by simp only [hasSh]; exact hy y hy')
    obtain ⟨us, rfl, _⟩ := list_of (lv := Uni.lv) (Q := fun _ => True) zs fun y hy' => uni_of_sh (by simp only [hasSh]; exact hz y hy')
    exact ⟨ps, us, rfl, ⟨by simpa using hl, by simpa using hm, hps⟩⟩
  | [], h => simp [hasShs] at h
  | [_], h => simp [hasShs] at h
  | _ :: _ :: _ :: _, h => simp [hasShs] at h
end Go.Proofs.Ytdppjbiphekgjaa

namespace Go.Proofs.Ytdppjbiphekgjaa
open Go.Lg
set_option maxHeartbeats 1600000
set_option maxRecDepth 10000
set_option linter.unusedVariables false
set_option linter.unusedSimpArgs false

/-! ### Rows of texts -/
def strLV (b : ByteArray) : LV := .str b
def strsLV (bs : List ByteArray) : LV := .sl (bs.map strLV)
def szSFold : Int → List ByteArray → Int
  | n, [] => n
  | n, b :: bs => match ltI (IntKind.i64.wrap (n - (b.size : Int))) 0 with | true => -1 | false => szSFold (IntKind.i64.wrap (n - (b.size : Int))) bs
def szStrs (n : Int) (bs : List ByteArray) : Int := match ltI (IntKind.i64.wrap (n - (bs.length : Int))) 0 with | true => -1 | false => szSFold (IntKind.i64.wrap (n - (bs.length : Int))) bs
theorem szStringS_spec (bs : List ByteArray) (n : Int) : FSpec env.P 41 [strsLV bs, .int .i64 n] (.int .i64 (szStrs n bs)) := by
  refine FSpec_of_code env_ok (fn := Try.f41) Try.func41 rfl Try.call41 _ _ ?_
  ((repeat ((conv => whnf); first | refine brT ?_ | refine brF ?_)); conv => whnf)
  intro hn
  ((repeat ((conv => whnf); first | refine brT ?_ | refine brF ?_)); conv => whnf)
  have e : ((bs.map strLV).length : Int) = (bs.length : Int) := by simp
  have hp' : bs.length ≤ Go.maxLen := by simpa using hn
  rw [e]
  (refine ⟨fun h => ?_, fun h => ?_⟩ <;> rw [h])
  · ((repeat ((conv => whnf); first | refine brT ?_ | refine brF ?_)); conv => whnf)
    refine ⟨rfl, ?_, List.nodup_nil⟩
    simp only [szStrs, h]
  ((repeat ((conv => whnf); first | refine brT ?_ | refine brF ?_)); conv => whnf)
  refine loop_rule (α := Nat × Int) (fun x => [(1, .int .i64 x.2), (5, .int .i64 (x.1 : Int))]) (fun _ => []) (fun x => bs.length - x.1)
    (fun x => x.1 ≤ bs.length ∧ szSFold x.2 (bs.drop x.1) = szStrs n bs) (0, IntKind.i64.wrap (n - (bs.length : Int))) ⟨Nat.zero_le _, by simp only [szStrs, h, List.drop_zero]⟩ ?_ ?_
  · refine ⟨?_, trivial, rfl, rfl⟩
    ((repeat ((conv => whnf); refine ⟨rfl, ?_⟩)); trivial)
  rintro ⟨k, c⟩ ⟨hk, hc⟩
  ((repeat ((conv => whnf); first | refine brT ?_ | refine brF ?_)); conv => whnf)
  intro _
  ((repeat ((conv => whnf); first | refine brT ?_ | refine brF ?_)); conv => whnf)
  rw [e]
  (refine ⟨fun h1 => ?_, fun h1 => ?_⟩ <;> rw [h1])
  · have hlt : k < bs.length := by rw [ltI_t] at h1; simp at h1; omega
    have hd : bs.drop k = bs[k] :: bs.drop (k + 1) := List.drop_eq_getElem_cons hlt
    simp only [hd, szSFold] at hc
    ((repeat ((conv => whnf); first | refine brT ?_ | refine brF ?_)); conv => whnf)
    refine ⟨k, strLV bs[k], rfl, by simp [hlt], rfl, ?_⟩
    ((repeat ((conv => whnf); first | refine brT ?_ | refine brF ?_)); conv => whnf)
    intro hz
    ((repeat ((conv => whnf); first | refine brT ?_ | refine brF ?_)); conv => whnf)
    (refine ⟨fun h2 => ?_, fun h2 => ?_⟩ <;> rw [h2])
    · ((repeat ((conv => whnf); first | refine brT ?_ | refine brF ?_)); conv => whnf)
      refine ⟨rfl, ?_, List.nodup_nil⟩
      rw [← hc, h2]
    · rw [h2] at hc
      ((repeat ((conv => whnf); first | refine brT ?_ | refine brF ?_)); conv => whnf)
      refine round_end (k + 1, IntKind.i64.wrap (c - (bs[k].size : Int))) ⟨hlt, hc⟩ (by simp only; omega) ⟨?_, trivial, rfl, rfl⟩
      have e := step_i hlt hp'
      ((repeat ((conv => whnf); first | refine ⟨e, ?_⟩ | refine ⟨rfl, ?_⟩)); trivial)
  · have h3 : bs.length ≤ k := by rw [ltI_f] at h1; simp at h1; omega
    ((repeat ((conv => whnf); first | refine brT ?_ | refine brF ?_)); conv => whnf)
    refine ⟨rfl, ?_, List.nodup_nil⟩
    rw [← hc, List.drop_eq_nil_of_le h3]
    rfl
theorem szSFold_le : ∀ {bs : List ByteArray} {n : Int}, 0 ≤ n → n ≤ 1048576 → (∀ b ∈ bs, b.size ≤ Go.maxLen) → szSFold n bs ≤ n
  | [], n, _, _, _ => Int.le_refl n
  | b :: bs, n, h0, h1, h => by
    have hb := h b (by simp)
    unfold szSFold
    rw [wrap_sub h0 h1 hb]
    split
    · omega
    · rename_i hh
      rw [ltI_f] at hh
      have := szSFold_le (bs := bs) hh (by omega) (fun q hq => h q (List.mem_cons_of_mem _ hq))
      omega
theorem szStrs_ok {bs : List ByteArray} {n : Int} (h0 : 0 ≤ n) (h1 : n ≤ 1048576) (hl : bs.length ≤ Go.maxLen) (h : ∀ b ∈ bs, b.size ≤ Go.maxLen) (hk : 0 ≤ szStrs n bs) : (bs.length : Int) ≤ n ∧ szStrs n bs ≤ n := by
  unfold szStrs at hk ⊢
  rw [wrap_sub h0 h1 hl] at hk ⊢
  split at hk
  · omega
  · rename_i hh
    rw [ltI_f] at hh
    have := szSFold_le hh (by omega) h
    exact ⟨by omega, by omega⟩

theorem toStringS_h (bs : List ByteArray) (hb : 16 * bs.length ≤ 281474976710656) : HSpec env.P 43 [strsLV bs] [] (.hs 0 (bs.map strLV).length) [.arr 9 1 (bs.map strLV)] := by
  refine HSpec_of_code (E := env.x [] 0) env_ok.x (fn := Try.f43) Try.func43 rfl Try.call43 _ _ _ _ ?_
  ((repeat ((conv => whnf); first | refine brT ?_ | refine brF ?_)); conv => whnf)
  intro hp
  have hp' : bs.length ≤ Go.maxLen := by simpa using hp
  ((repeat ((conv => whnf); first | refine brT ?_ | refine brF ?_)); conv => whnf)
  refine ⟨bs.length, by simp, by simp, hb, hp', rfl, by decide, ?_⟩
  ((repeat ((conv => whnf); first | refine brT ?_ | refine brF ?_)); conv => whnf)
  refine loop_rule (α := Nat) (fun k => [(4, .int .i64 (k : Int))]) (fun k => [.arr 9 1 (fillLV strLV (.str ⟨#[]⟩) bs k)]) (fun k => bs.length - k) (fun k => k ≤ bs.length) 0 (Nat.zero_le _) ?_ ?_
  · refine ⟨?_, ⟨by simp [fillLV], trivial⟩, rfl, rfl⟩
    ((repeat ((conv => whnf); refine ⟨rfl, ?_⟩)); trivial)
  rintro k hk
  ((repeat ((conv => whnf); first | refine brT ?_ | refine brF ?_)); conv => whnf)
  intro _
  ((repeat ((conv => whnf); first | refine brT ?_ | refine brF ?_)); conv => whnf)
  (refine ⟨fun h1 => ?_, fun h1 => ?_⟩ <;> rw [h1])
  · have hlt : k < bs.length := by rw [ltI_t] at h1; simp at h1; omega
    ((repeat ((conv => whnf); first | refine brT ?_ | refine brF ?_)); conv => whnf)
    refine ⟨k, strLV bs[k], rfl, by simp [hlt], rfl, ?_⟩
    ((repeat ((conv => whnf); first | refine brT ?_ | refine brF ?_)); conv => whnf)
    refine ⟨(fill_len hk).symm, rfl, k, rfl, by rw [fill_len hk]; exact hlt, ?_⟩
    ((repeat ((conv => whnf); first | refine brT ?_ | refine brF ?_)); conv => whnf)
    refine ⟨(fill_len hk).symm, k, [], .str ⟨#[]⟩, rfl, by simp [getP, fill_get hlt], rfl, rfl, rfl, _, rfl, ?_⟩
    ((repeat ((conv => whnf); first | refine brT ?_ | refine brF ?_)); conv => whnf)
    refine round_end (k + 1) hlt (by omega) ⟨?_, ⟨?_, trivial⟩, rfl, rfl⟩
    · have e := step_i hlt hp'
      ((repeat ((conv => whnf); first | refine ⟨e, ?_⟩ | refine ⟨rfl, ?_⟩)); trivial)
    · have e3 : (match (fillLV strLV (.str ⟨#[]⟩) bs k)[k]? with | some z => (fillLV strLV (.str ⟨#[]⟩) bs k).set k (setP z [] (strLV bs[k])) | none => fillLV strLV (.str ⟨#[]⟩) bs k) = fillLV strLV (.str ⟨#[]⟩) bs (k + 1) := by
        rw [fill_get hlt]
        simp only [setP]
        exact fill_set hlt
      exact congrArg (Blk.arr 9 1) e3
  · have h3 : bs.length ≤ k := by rw [ltI_f] at h1; simp at h1; omega
    have h4 : k = bs.length := by omega
    subst h4
    ((repeat ((conv => whnf); first | refine brT ?_ | refine brF ?_)); conv => whnf)
    exact ⟨[.hs 0 (bs.map strLV).length], by simp [tupOf], rfl, .inl ⟨⟨by rw [List.length_map]; rfl, trivial⟩, ⟨congrArg (Blk.arr 9 1) fill_all, trivial⟩, rfl, rfl⟩⟩
theorem toStringS_f (bs : List ByteArray) (hb : 16 * bs.length ≤ 281474976710656) : FSpec env.P 43 [strsLV bs] (.own 9 1 (bs.map strLV)) :=
  FSpec_of_HSpec (toStringS_h bs hb) (by simp only [exW]; exact ⟨rfl, rfl, rfl, rfl, by simp⟩)

theorem eqStringS_spec (ps qs : List ByteArray) : FSpec env.P 45 [strsLV ps, strsLV qs] (.bool (eqList eqS ps qs)) := by
  refine FSpec_of_code env_ok (fn := Try.f45) Try.func45 rfl Try.call45 _ _ ?_
  ((repeat ((conv => whnf); first | refine brT ?_ | refine brF ?_)); conv => whnf)
  intro hp
  ((repeat ((conv => whnf); first | refine brT ?_ | refine brF ?_)); conv => whnf)
  intro hq
  ((repeat ((conv => whnf); first | refine brT ?_ | refine brF ?_)); conv => whnf)
  (refine ⟨fun h => ?_, fun h => ?_⟩ <;> rw [h])
  · ((repeat ((conv => whnf); first | refine brT ?_ | refine brF ?_)); conv => whnf)
    refine fin ?_
    rw [notB_t] at h
    rw [eqList_len (eqI_nolen h)]
  rw [notB_f] at h
  have hl := eqI_len h
  have hp' : ps.length ≤ Go.maxLen := by simpa using hp
  ((repeat ((conv => whnf); first | refine brT ?_ | refine brF ?_)); conv => whnf)
  refine loop_rule (α := Nat) (fun k => [(5, .int .i64 (k : Int))]) (fun _ => []) (fun k => ps.length - k) (fun k => k ≤ ps.length ∧ eqTo eqS ps qs k) 0 ⟨Nat.zero_le _, fun _ _ _ h => absurd h (Nat.not_lt_zero _)⟩ ?_ ?_
  · refine ⟨?_, trivial, rfl, rfl⟩
    ((repeat ((conv => whnf); refine ⟨rfl, ?_⟩)); trivial)
  rintro k ⟨hk, he⟩
  ((repeat ((conv => whnf); first | refine brT ?_ | refine brF ?_)); conv => whnf)
  intro _
  ((repeat ((conv => whnf); first | refine brT ?_ | refine brF ?_)); conv => whnf)
  (refine ⟨fun h1 => ?_, fun h1 => ?_⟩ <;> rw [h1])
  · have hlt : k < ps.length := by rw [ltI_t] at h1; simp at h1; omega
    have hlt2 : k < qs.length := by omega
    ((repeat ((conv => whnf); first | refine brT ?_ | refine brF ?_)); conv => whnf)
    refine ⟨true, by kernel_rfl, ?_⟩
    ((repeat ((conv => whnf); first | refine brT ?_ | refine brF ?_)); conv => whnf)
    refine ⟨k, strLV ps[k], rfl, by simp [hlt], rfl, ?_⟩
    ((repeat ((conv => whnf); first | refine brT ?_ | refine brF ?_)); conv => whnf)
    refine ⟨k, strLV qs[k], rfl, by simp [hlt2], rfl, ?_⟩
    ((repeat ((conv => whnf); first | refine brT ?_ | refine brF ?_)); conv => whnf)
    (refine ⟨fun h3 => ?_, fun h3 => ?_⟩ <;> rw [h3])
    · rw [notB_t] at h3
      ((repeat ((conv => whnf); first | refine brT ?_ | refine brF ?_)); conv => whnf)
      refine fin ?_
      rw [eqList_no (k := k) (x := ps[k]) (y := qs[k]) (by simp [hlt]) (by simp [hlt2]) h3]
    · rw [notB_f] at h3
      ((repeat ((conv => whnf); first | refine brT ?_ | refine brF ?_)); conv => whnf)
      refine round_end (k + 1) ⟨hlt, he.succ (x := ps[k]) (y := qs[k]) (by simp [hlt]) (by simp [hlt2]) h3⟩ (by omega) ⟨?_, trivial, rfl, rfl⟩
      have e := step_i hlt hp'
      ((repeat ((conv => whnf); first | refine ⟨e, ?_⟩ | refine ⟨rfl, ?_⟩)); trivial)
  · have h3 : ps.length ≤ k := by rw [ltI_f] at h1; simp at h1; omega
    have h4 : k = ps.length := by omega
    subst h4
    ((repeat ((conv => whnf); first | refine brT ?_ | refine brF ?_)); conv => whnf)
    refine fin ?_
    rw [eqTo.all hl he]
end Go.Proofs.Ytdppjbiphekgjaa

namespace Go.Proofs.Ytdppjbiphekgjaa
open Go.Lg
set_option maxHeartbeats 3200000
set_option maxRecDepth 10000
set_option linter.unusedVariables false
set_option linter.unusedSimpArgs false

def markStrs (k : Nat) : Nat → List ByteArray
  | 0 => []
  | n + 1 => markStrs k n ++ [mText (k + n)]
theorem markStrs_len (k : Nat) : ∀ n, (markStrs k n).length = n
  | 0 => rfl
  | n + 1 => by simp [markStrs, markStrs_len k n]
def rowSM (k : Nat) (bs : List ByteArray) (i : Nat) : List LV := (markStrs k i ++ bs.drop i).map strLV
theorem rowSM_len {k : Nat} {bs : List ByteArray} {i : Nat} (h : i ≤ bs.length) : (rowSM k bs i).length = bs.length := by simp [rowSM, markStrs_len]; omega
theorem rowSM_get {k : Nat} {bs : List ByteArray} {i : Nat} (h : i < bs.length) : (rowSM k bs i)[i]? = some (strLV bs[i]) := by
  unfold rowSM
  rw [List.getElem?_map, List.getElem?_append_right (by rw [markStrs_len]; exact Nat.le_refl _), markStrs_len, Nat.sub_self, List.getElem?_drop, Nat.add_zero, List.getElem?_eq_getElem h]
  rfl
theorem rowSM_set {k : Nat} {bs : List ByteArray} {i : Nat} (h : i < bs.length) : (rowSM k bs i).set i (strLV (mText (k + i))) = rowSM k bs (i + 1) := by
  unfold rowSM
  rw [List.drop_eq_getElem_cons h, List.map_append, List.map_cons, List.set_append_right _ _ (by simp [markStrs_len])]
  simp [markStrs, markStrs_len]
theorem markStringS_spec (bs : List ByteArray) (n : Nat) (hn : n = (bs.map strLV).length) (k : Nat) (h1 : k + bs.length ≤ 2305843009213693952) :
    HSpec env.P 46 [.hs 0 n, .int .i64 (k : Int)] [.arr 9 1 (bs.map strLV)] (.int .i64 ((k + bs.length : Nat) : Int)) [.arr 9 1 ((markStrs k bs.length).map strLV)] := by
  subst hn
  refine HSpec_of_code (E := env.x [] 1) env_ok.x (fn := Try.f46) Try.func46 rfl Try.call46 _ _ _ _ ?_
  ((repeat ((conv => whnf); first | refine brT ?_ | refine brF ?_)); conv => whnf)
  refine loop_rule (α := Nat) (fun i => [(5, .int .i64 (i : Int)), (1, .int .i64 ((k + i : Nat) : Int)), (0, .hs 0 (rowSM k bs i).length)]) (fun i => [.arr 9 1 (rowSM k bs i)]) (fun i => bs.length - i) (fun i => i ≤ bs.length) 0 (Nat.zero_le _) ?_ ?_
  · have e0 : bs.map strLV = rowSM k bs 0 := by simp [rowSM, markStrs]
    have e1 : LV.hs 0 (bs.map strLV).length = LV.hs 0 (rowSM k bs 0).length := by rw [e0]
    refine ⟨?_, ⟨congrArg (Blk.arr 9 1) e0, trivial⟩, rfl, rfl⟩
    ((repeat ((conv => whnf); first | refine ⟨e1, ?_⟩ | refine ⟨rfl, ?_⟩)); trivial)
  intro i hi
  have hl := rowSM_len (k := k) hi
  ((repeat ((conv => whnf); first | refine brT ?_ | refine brF ?_)); conv => whnf)
  refine ⟨rfl, fun hm => ?_⟩
  have hm' : bs.length ≤ Go.maxLen := by rw [← hl]; exact hm
  ((repeat ((conv => whnf); first | refine brT ?_ | refine brF ?_)); conv => whnf)
  (refine ⟨fun g1 => ?_, fun g1 => ?_⟩ <;> rw [g1])
  · have hlt : i < bs.length := by rw [ltI_t] at g1; omega
    have e := step_i hlt hm'
    have e4 : LV.int .i64 (IntKind.i64.wrap (((k + i : Nat) : Int) + 1)) = LV.int .i64 ((k + (i + 1) : Nat) : Int) := by
      rw [wrap64 (by omega) (by omega)]; congr 1
    have e5 : LV.hs 0 (rowSM k bs i).length = LV.hs 0 (rowSM k bs (i + 1)).length := by rw [hl, rowSM_len (by omega)]
    ((repeat ((conv => whnf); first | refine brT ?_ | refine brF ?_)); conv => whnf)
    refine ⟨_, markText_spec (k + i) (by omega), ?_⟩
    ((repeat ((conv => whnf); first | refine brT ?_ | refine brF ?_)); conv => whnf)
    refine ⟨rfl, rfl, i, rfl, by omega, ?_⟩
    ((repeat ((conv => whnf); first | refine brT ?_ | refine brF ?_)); conv => whnf)
    refine ⟨rfl, i, [], strLV bs[i], rfl, by simp [getP, rowSM_get hlt], rfl, rfl, rfl, rowSM k bs (i + 1), by rw [rowSM_get hlt]; exact rowSM_set hlt, ?_⟩
    ((repeat ((conv => whnf); first | refine brT ?_ | refine brF ?_)); conv => whnf)
    refine round_end (i + 1) hlt (by omega) ⟨?_, ⟨rfl, trivial⟩, rfl, rfl⟩
    repeat ((conv => whnf); first | refine ⟨e, ?_⟩ | refine ⟨e4, ?_⟩ | refine ⟨e5, ?_⟩ | refine ⟨rfl, ?_⟩)
    trivial
  · have h3 : i = bs.length := by rw [ltI_f] at g1; omega
    subst h3
    ((repeat ((conv => whnf); first | refine brT ?_ | refine brF ?_)); conv => whnf)
    exact ⟨[.int .i64 ((k + bs.length : Nat) : Int)], rfl, rfl, .inl ⟨⟨rfl, trivial⟩, ⟨by simp [rowSM], trivial⟩, rfl, rfl⟩⟩

theorem markPers_get (k : Nat) : ∀ {n i : Nat}, i < n → (markPers k n)[i]? = some (markPer (k + 6 * i))
  | 0, _, h => by omega
  | n + 1, i, h => by
    unfold markPers
    by_cases hi : i < n
    · rw [List.getElem?_append_left (by rw [markPers_len]; exact hi)]; exact markPers_get k hi
    · have : i = n := by omega
      subst this
      rw [List.getElem?_append_right (by rw [markPers_len]; exact Nat.le_refl _), markPers_len, Nat.sub_self]; rfl
theorem markUnis_get (k : Nat) : ∀ {n i : Nat}, i < n → (markUnis k n)[i]? = some (markUni (k + 4 * i))
  | 0, _, h => by omega
  | n + 1, i, h => by
    unfold markUnis
    by_cases hi : i < n
    · rw [List.getElem?_append_left (by rw [markUnis_len]; exact hi)]; exact markUnis_get k hi
    · have : i = n := by omega
      subst this
      rw [List.getElem?_append_right (by rw [markUnis_len]; exact Nat.le_refl _), markUnis_len, Nat.sub_self]; rfl
theorem heldPersonS_spec (k n : Nat) (h1 : k + 6 * n ≤ 2305843009213693952) : FSpec env.P 109 [.sl ((markPers k n).map Per.lv), .int .i64 (k : Int)] (.int .i64 ((k + 6 * n : Nat) : Int)) := by
  refine FSpec_of_code env_ok (fn := Try.f109) Try.func109 rfl Try.call109 _ _ ?_
  have hl : ((markPers k n).map Per.lv).length = n := by simp [markPers_len]
  ((repeat ((conv => whnf); first | refine brT ?_ | refine brF ?_)); conv => whnf)
  refine loop_rule (α := Nat) (fun i => [(5, .int .i64 (i : Int)), (1, .int .i64 ((k + 6 * i : Nat) : Int))]) (fun _ => []) (fun i => n - i) (fun i => i ≤ n) 0 (Nat.zero_le _) ?_ ?_
  · refine ⟨?_, trivial, rfl, rfl⟩
    ((repeat ((conv => whnf); refine ⟨rfl, ?_⟩)); trivial)
  intro i hi
  ((repeat ((conv => whnf); first | refine brT ?_ | refine brF ?_)); conv => whnf)
  intro hm
  rw [hl] at hm
  ((repeat ((conv => whnf); first | refine brT ?_ | refine brF ?_)); conv => whnf)
  rw [hl]
  (refine ⟨fun g1 => ?_, fun g1 => ?_⟩ <;> rw [g1])
  · have hlt : i < n := by rw [ltI_t] at g1; omega
    have e := step_i hlt hm
    have w0 : IntKind.i64.wrap (((k + 6 * i : Nat) : Int) + 1) = ((k + 6 * i : Nat) : Int) + 1 := by rw [wrap64 (by omega) (by omega)]
    have w1 : IntKind.i64.wrap (((k + 6 * i : Nat) : Int) + 1 + 1) = ((k + 6 * i : Nat) : Int) + 2 := by rw [wrap64 (by omega) (by omega)]; omega
    have w2 : IntKind.i64.wrap (((k + 6 * i : Nat) : Int) + 2 + 1) = ((k + 6 * i : Nat) : Int) + 3 := by rw [wrap64 (by omega) (by omega)]; omega
    have w3 : IntKind.i64.wrap (((k + 6 * i : Nat) : Int) + 3 + 1) = ((k + 6 * i : Nat) : Int) + 4 := by rw [wrap64 (by omega) (by omega)]; omega
    have w4 : IntKind.i64.wrap (((k + 6 * i : Nat) : Int) + 4 + 1) = ((k + 6 * i : Nat) : Int) + 5 := by rw [wrap64 (by omega) (by omega)]; omega
    have w5 : IntKind.i64.wrap (((k + 6 * i : Nat) : Int) + 5 + 1) = ((k + 6 * (i + 1) : Nat) : Int) := by rw [wrap64 (by omega) (by omega)]; omega
    have hg0 := markPers_get k hlt
    have hmt := markText_spec (k + 6 * i) (by omega)
    unfold markPer at hg0
    generalize hN : mText (k + 6 * i) = nm at hg0 hmt
    generalize hK : ((k + 6 * i : Nat) : Int) = kk at w0 w1 w2 w3 w4 w5 hg0 hmt ⊢
    have hg : ((markPers k n).map Per.lv)[i]? = some (.st [.str nm, .int .i64 (kk + 1), .int .i64 (kk + 2), .int .i64 (kk + 3), .int .i64 (kk + 4), .int .i64 (kk + 5)]) := by rw [List.getElem?_map, hg0]; rfl
    ((repeat ((conv => whnf); first | refine brT ?_ | refine brF ?_)); conv => whnf)
    refine ⟨true, by kernel_rfl, ?_⟩
    ((repeat ((conv => whnf); first | refine brT ?_ | refine brF ?_)); conv => whnf)
    refine ⟨i, _, rfl, hg, rfl, ?_⟩
    ((repeat ((conv => whnf); first | refine brT ?_ | refine brF ?_)); conv => whnf)
    refine ⟨_, hmt, ?_⟩
    ((repeat ((conv => whnf); first | refine brT ?_ | refine brF ?_)); conv => whnf)
    rw [show notB (eqS nm nm) = false by simp [eqS_refl, notB]]
    ((repeat ((conv => whnf); first | refine brT ?_ | refine brF ?_)); conv => whnf)
    rw [w0]
    refine ⟨i, _, rfl, hg, rfl, ?_⟩
    ((repeat ((conv => whnf); first | refine brT ?_ | refine brF ?_)); conv => whnf)
    rw [show notB (eqI (kk + 1) (kk + 1)) = false by simp [eqI_refl, notB]]
    ((repeat ((conv => whnf); first | refine brT ?_ | refine brF ?_)); conv => whnf)
    rw [w1]
    refine ⟨i, _, rfl, hg, rfl, ?_⟩
    ((repeat ((conv => whnf); first | refine brT ?_ | refine brF ?_)); conv => whnf)
    rw [show notB (eqI (kk + 2) (kk + 2)) = false by simp [eqI_refl, notB]]
    ((repeat ((conv => whnf); first | refine brT ?_ | refine brF ?_)); conv => whnf)
    rw [w2]
    refine ⟨i, _, rfl, hg, rfl, ?_⟩
    ((repeat ((conv => whnf); first | refine brT ?_ | refine brF ?_)); conv => whnf)
    rw [show notB (eqI (kk + 3) (kk + 3)) = false by simp [eqI_refl, notB]]
    ((repeat ((conv => whnf); first | refine brT ?_ | refine brF ?_)); conv => whnf)
    rw [w3]
    refine ⟨i, _, rfl, hg, rfl, ?_⟩
    ((repeat ((conv => whnf); first | refine brT ?_ | refine brF ?_)); conv => whnf)
    rw [show notB (eqI (kk + 4) (kk + 4)) = false by simp [eqI_refl, notB]]
    ((repeat ((conv => whnf); first | refine brT ?_ | refine brF ?_)); conv => whnf)
    rw [w4]
    refine ⟨i, _, rfl, hg, rfl, ?_⟩
    ((repeat ((conv => whnf); first | refine brT ?_ | refine brF ?_)); conv => whnf)
    rw [show notB (eqI (kk + 5) (kk + 5)) = false by simp [eqI_refl, notB]]
    ((repeat ((conv => whnf); first | refine brT ?_ | refine brF ?_)); conv => whnf)
    have e6 : LV.int .i64 (IntKind.i64.wrap (kk + 5 + 1)) = LV.int .i64 ((k + 6 * (i + 1) : Nat) : Int) := by rw [w5]
    refine round_end (i + 1) hlt (by omega) ⟨?_, trivial, rfl, rfl⟩
    repeat ((conv => whnf); first | refine ⟨e, ?_⟩ | refine ⟨e6, ?_⟩ | refine ⟨rfl, ?_⟩)
    trivial
  · have h3 : i = n := by rw [ltI_f] at g1; omega
    subst h3
    ((repeat ((conv => whnf); first | refine brT ?_ | refine brF ?_)); conv => whnf)
    exact ⟨rfl, rfl, List.nodup_nil⟩
theorem heldUnionS_spec (k n : Nat) (h1 : k + 4 * n ≤ 2305843009213693952) : FSpec env.P 110 [.sl ((markUnis k n).map Uni.lv), .int .i64 (k : Int)] (.int .i64 ((k + 4 * n : Nat) : Int)) := by
  refine FSpec_of_code env_ok (fn := Try.f110) Try.func110 rfl Try.call110 _ _ ?_
  have hl : ((markUnis k n).map Uni.lv).length = n := by simp [markUnis_len]
  ((repeat ((conv => whnf); first | refine brT ?_ | refine brF ?_)); conv => whnf)
  refine loop_rule (α := Nat) (fun i => [(5, .int .i64 (i : Int)), (1, .int .i64 ((k + 4 * i : Nat) : Int))]) (fun _ => []) (fun i => n - i) (fun i => i ≤ n) 0 (Nat.zero_le _) ?_ ?_
  · refine ⟨?_, trivial, rfl, rfl⟩
    ((repeat ((conv => whnf); refine ⟨rfl, ?_⟩)); trivial)
  intro i hi
  ((repeat ((conv => whnf); first | refine brT ?_ | refine brF ?_)); conv => whnf)
  intro hm
  rw [hl] at hm
  ((repeat ((conv => whnf); first | refine brT ?_ | refine brF ?_)); conv => whnf)
  rw [hl]
  (refine ⟨fun g1 => ?_, fun g1 => ?_⟩ <;> rw [g1])
  · have hlt : i < n := by rw [ltI_t] at g1; omega
    have e := step_i hlt hm
    have w0 : IntKind.i64.wrap (((k + 4 * i : Nat) : Int) + 1) = ((k + 4 * i : Nat) : Int) + 1 := by rw [wrap64 (by omega) (by omega)]
    have w1 : IntKind.i64.wrap (((k + 4 * i : Nat) : Int) + 1 + 1) = ((k + 4 * i : Nat) : Int) + 2 := by rw [wrap64 (by omega) (by omega)]; omega
    have w2 : IntKind.i64.wrap (((k + 4 * i : Nat) : Int) + 2 + 1) = ((k + 4 * i : Nat) : Int) + 3 := by rw [wrap64 (by omega) (by omega)]; omega
    have w3 : IntKind.i64.wrap (((k + 4 * i : Nat) : Int) + 3 + 1) = ((k + 4 * (i + 1) : Nat) : Int) := by rw [wrap64 (by omega) (by omega)]; omega
    have hg0 := markUnis_get k hlt
    unfold markUni at hg0
    generalize hK : ((k + 4 * i : Nat) : Int) = kk at w0 w1 w2 w3 hg0 ⊢
    have hg : ((markUnis k n).map Uni.lv)[i]? = some (.st [.int .i64 kk, .int .i64 (kk + 1), .int .i64 (kk + 2), .int .i64 (kk + 3)]) := by rw [List.getElem?_map, hg0]; rfl
    ((repeat ((conv => whnf); first | refine brT ?_ | refine brF ?_)); conv => whnf)
    refine ⟨i, _, rfl, hg, rfl, ?_⟩
    ((repeat ((conv => whnf); first | refine brT ?_ | refine brF ?_)); conv => whnf)
    rw [show notB (eqI kk kk) = false by simp [eqI_refl, notB]]
    ((repeat ((conv => whnf); first | refine brT ?_ | refine brF ?_)); conv => whnf)
    rw [w0]
    refine ⟨i, _, rfl, hg, rfl, ?_⟩
    ((repeat ((conv => whnf); first | refine brT ?_ | refine brF ?_)); conv => whnf)
    rw [show notB (eqI (kk + 1) (kk + 1)) = false by simp [eqI_refl, notB]]
    ((repeat ((conv => whnf); first | refine brT ?_ | refine brF ?_)); conv => whnf)
    rw [w1]
    refine ⟨i, _, rfl, hg, rfl, ?_⟩
    ((repeat ((conv => whnf); first | refine brT ?_ | refine brF ?_)); conv => whnf)
    rw [show notB (eqI (kk + 2) (kk + 2)) = false by simp [eqI_refl, notB]]
    ((repeat ((conv => whnf); first | refine brT ?_ | refine brF ?_)); conv => whnf)
    rw [w2]
    refine ⟨i, _, rfl, hg, rfl, ?_⟩
    ((repeat ((conv => whnf); first | refine brT ?_ | refine brF ?_)); conv => whnf)
    rw [show notB (eqI (kk + 3) (kk + 3)) = false by simp [eqI_refl, notB]]
    ((repeat ((conv => whnf); first | refine brT ?_ | refine brF ?_)); conv => whnf)
    have e6 : LV.int .i64 (IntKind.i64.wrap (kk + 3 + 1)) = LV.int .i64 ((k + 4 * (i + 1) : Nat) : Int) := by rw [w3]
    refine round_end (i + 1) hlt (by omega) ⟨?_, trivial, rfl, rfl⟩
    repeat ((conv => whnf); first | refine ⟨e, ?_⟩ | refine ⟨e6, ?_⟩ | refine ⟨rfl, ?_⟩)
    trivial
  · have h3 : i = n := by rw [ltI_f] at g1; omega
    subst h3
    ((repeat ((conv => whnf); first | refine brT ?_ | refine brF ?_)); conv => whnf)
    exact ⟨rfl, rfl, List.nodup_nil⟩
theorem heldFamily_spec (k n m : Nat) (h1 : k + 6 * n + 4 * m ≤ 2305843009213693952) : FSpec env.P 47 [famLV (markPers k n) (markUnis (k + 6 * n) m), .int .i64 (k : Int)] (.int .i64 ((k + 6 * n + 4 * m : Nat) : Int)) := by
  refine FSpec_of_code env_ok (fn := Try.f47) Try.func47 rfl Try.call47 _ _ ?_
  ((repeat ((conv => whnf); first | refine brT ?_ | refine brF ?_)); conv => whnf)
  refine ⟨_, heldPersonS_spec k n (by omega), ?_⟩
  ((repeat ((conv => whnf); first | refine brT ?_ | refine brF ?_)); conv => whnf)
  rw [show ltI ((k + 6 * n : Nat) : Int) 0 = false by rw [ltI_f]; omega]
  ((repeat ((conv => whnf); first | refine brT ?_ | refine brF ?_)); conv => whnf)
  refine ⟨_, heldUnionS_spec (k + 6 * n) m (by omega), ?_⟩
  ((repeat ((conv => whnf); first | refine brT ?_ | refine brF ?_)); conv => whnf)
  rw [show ltI ((k + 6 * n + 4 * m : Nat) : Int) 0 = false by rw [ltI_f]; omega]
  ((repeat ((conv => whnf); first | refine brT ?_ | refine brF ?_)); conv => whnf)
  exact ⟨rfl, rfl, List.nodup_nil⟩
end Go.Proofs.Ytdppjbiphekgjaa

namespace Go.Proofs.Ytdppjbiphekgjaa
open Go.Lg
set_option maxHeartbeats 3200000
set_option maxRecDepth 10000
set_option linter.unusedVariables false
set_option linter.unusedSimpArgs false

theorem perSz (ps : List Per) : ∀ y ∈ ps.map Per.lv, y.size = 6 := fun y hy => by obtain ⟨p, _, rfl⟩ := List.mem_map.1 hy; rfl
theorem uniSz (us : List Uni) : ∀ y ∈ us.map Uni.lv, y.size = 4 := fun y hy => by obtain ⟨p, _, rfl⟩ := List.mem_map.1 hy; rfl
theorem clonePer_h (ps : List Per) (h : ps.length ≤ 1048576) : HSpec env.P 105 [.sl (ps.map Per.lv)] [] (.hs 0 (ps.map Per.lv).length) [.arr 102 6 (ps.map Per.lv)] := by
  refine HSpec_of_code (E := env.x [] 0) env_ok.x (fn := Try.f105) Try.func105 rfl Try.call105 _ _ _ _ ?_
  have b1 : ([] ++ ps.map Per.lv).length ≤ Go.maxLen := by rw [List.nil_append, List.length_map]; unfold Go.maxLen; omega
  have b2 : ([] ++ ps.map Per.lv).length * 56 ≤ 140737488355328 := by rw [List.nil_append, List.length_map]; omega
  ((repeat ((conv => whnf); first | refine brT ?_ | refine brF ?_)); conv => whnf)
  refine ⟨fun h0 => ?_, ?_⟩
  · have : ps = [] := by simpa using h0
    subst this
    ((repeat ((conv => whnf); first | refine brT ?_ | refine brF ?_)); conv => whnf)
    exact ⟨[.hs 0 0], rfl, rfl, .nl [.tmp 0 [] false 102 6] [.old 0] ⟨⟨rfl, rfl, trivial⟩, ⟨rfl, rfl, trivial⟩, rfl⟩⟩
  · ((repeat ((conv => whnf); first | refine brT ?_ | refine brF ?_)); conv => whnf)
    refine ⟨perSz ps, rfl, b1, b2, ?_⟩
    ((repeat ((conv => whnf); first | refine brT ?_ | refine brF ?_)); conv => whnf)
    exact ⟨[.hs 0 (ps.map Per.lv).length], rfl, rfl, .inr ⟨[.old 1], ⟨rfl, rfl, trivial⟩, ⟨rfl, rfl, trivial⟩, rfl⟩⟩
theorem cloneUni_h (us : List Uni) (h : us.length ≤ 1048576) : HSpec env.P 106 [.sl (us.map Uni.lv)] [] (.hs 0 (us.map Uni.lv).length) [.arr 131 4 (us.map Uni.lv)] := by
  refine HSpec_of_code (E := env.x [] 0) env_ok.x (fn := Try.f106) Try.func106 rfl Try.call106 _ _ _ _ ?_
  have b1 : ([] ++ us.map Uni.lv).length ≤ Go.maxLen := by rw [List.nil_append, List.length_map]; unfold Go.maxLen; omega
  have b2 : ([] ++ us.map Uni.lv).length * 32 ≤ 140737488355328 := by rw [List.nil_append, List.length_map]; omega
  ((repeat ((conv => whnf); first | refine brT ?_ | refine brF ?_)); conv => whnf)
  refine ⟨fun h0 => ?_, ?_⟩
  · have : us = [] := by simpa using h0
    subst this
    ((repeat ((conv => whnf); first | refine brT ?_ | refine brF ?_)); conv => whnf)
    exact ⟨[.hs 0 0], rfl, rfl, .nl [.tmp 0 [] false 131 4] [.old 0] ⟨⟨rfl, rfl, trivial⟩, ⟨rfl, rfl, trivial⟩, rfl⟩⟩
  · ((repeat ((conv => whnf); first | refine brT ?_ | refine brF ?_)); conv => whnf)
    refine ⟨uniSz us, rfl, b1, b2, ?_⟩
    ((repeat ((conv => whnf); first | refine brT ?_ | refine brF ?_)); conv => whnf)
    exact ⟨[.hs 0 (us.map Uni.lv).length], rfl, rfl, .inr ⟨[.old 1], ⟨rfl, rfl, trivial⟩, ⟨rfl, rfl, trivial⟩, rfl⟩⟩
theorem l1Copy_h (ps : List Per) (us : List Uni) (hp : ps.length ≤ 1048576) (hu : us.length ≤ 1048576) : HSpec env.P 104 [famLV ps us] [] (famHS (ps.map Per.lv).length (us.map Uni.lv).length) [.arr 102 6 (ps.map Per.lv), .arr 131 4 (us.map Uni.lv)] := by
  refine HSpec_of_code (E := env.x [] 0) env_ok.x (fn := Try.f104) Try.func104 rfl Try.call104 _ _ _ _ ?_
  have b1 : (ps.map Per.lv).length ≤ Go.maxLen := by rw [List.length_map]; unfold Go.maxLen; omega
  have b2 : (ps.map Per.lv).length * 56 ≤ 140737488355328 := by rw [List.length_map]; omega
  have b3 : (us.map Uni.lv).length ≤ Go.maxLen := by rw [List.length_map]; unfold Go.maxLen; omega
  have b4 : (us.map Uni.lv).length * 32 ≤ 140737488355328 := by rw [List.length_map]; omega
  ((repeat ((conv => whnf); first | refine brT ?_ | refine brF ?_)); conv => whnf)
  refine ⟨perSz ps, b1, b2, ?_⟩
  ((repeat ((conv => whnf); first | refine brT ?_ | refine brF ?_)); conv => whnf)
  refine ⟨uniSz us, b3, b4, ?_⟩
  ((repeat ((conv => whnf); first | refine brT ?_ | refine brF ?_)); conv => whnf)
  exact ⟨[famHS (ps.map Per.lv).length (us.map Uni.lv).length], rfl, rfl, .inr ⟨[.old 3, .old 4], ⟨rfl, rfl, trivial⟩, ⟨rfl, rfl, rfl, rfl, trivial⟩, rfl⟩⟩
theorem validFamily_yes (ps : List Per) (us : List Uni) (h : famOk ps us = true) : HSpec env.P 107 [famHS (ps.map Per.lv).length (us.map Uni.lv).length] [.arr 102 6 (ps.map Per.lv), .arr 131 4 (us.map Uni.lv)]
    (.tup [famHS (ps.map Per.lv).length (us.map Uni.lv).length, .bool true]) [.arr 102 6 (ps.map Per.lv), .arr 131 4 (us.map Uni.lv)] := by
  refine HSpec_of_code (E := env.x [] 2) env_ok.x (fn := Try.f107) Try.func107 rfl Try.call107 _ _ _ _ ?_
  ((repeat ((conv => whnf); first | refine brT ?_ | refine brF ?_)); conv => whnf)
  refine ⟨rfl, ?_⟩
  ((repeat ((conv => whnf); first | refine brT ?_ | refine brF ?_)); conv => whnf)
  refine ⟨rfl, ?_⟩
  ((repeat ((conv => whnf); first | refine brT ?_ | refine brF ?_)); conv => whnf)
  refine ⟨_, isFamily_impl ps us, ?_⟩
  ((repeat ((conv => whnf); first | refine brT ?_ | refine brF ?_)); conv => whnf)
  rw [h, show notB true = false by simp [notB]]
  ((repeat ((conv => whnf); first | refine brT ?_ | refine brF ?_)); conv => whnf)
  exact ⟨[famHS (ps.map Per.lv).length (us.map Uni.lv).length, .bool true], rfl, rfl, .inl ⟨⟨rfl, rfl, trivial⟩, ⟨rfl, rfl, trivial⟩, rfl, rfl⟩⟩
theorem validFamily_no (ps : List Per) (us : List Uni) (h : famOk ps us = false) : HSpec env.P 107 [famHS (ps.map Per.lv).length (us.map Uni.lv).length] [.arr 102 6 (ps.map Per.lv), .arr 131 4 (us.map Uni.lv)]
    (.tup [.st [.nil, .nil], .bool false]) [.arr 102 6 (ps.map Per.lv), .arr 131 4 (us.map Uni.lv)] := by
  refine HSpec_of_code (E := env.x [] 2) env_ok.x (fn := Try.f107) Try.func107 rfl Try.call107 _ _ _ _ ?_
  ((repeat ((conv => whnf); first | refine brT ?_ | refine brF ?_)); conv => whnf)
  refine ⟨rfl, ?_⟩
  ((repeat ((conv => whnf); first | refine brT ?_ | refine brF ?_)); conv => whnf)
  refine ⟨rfl, ?_⟩
  ((repeat ((conv => whnf); first | refine brT ?_ | refine brF ?_)); conv => whnf)
  refine ⟨_, isFamily_impl ps us, ?_⟩
  ((repeat ((conv => whnf); first | refine brT ?_ | refine brF ?_)); conv => whnf)
  rw [h, show notB false = true by simp [notB]]
  ((repeat ((conv => whnf); first | refine brT ?_ | refine brF ?_)); conv => whnf)
  exact ⟨[.st [.nil, .nil], .bool false], rfl, rfl, .inl ⟨⟨rfl, rfl, trivial⟩, ⟨rfl, rfl, trivial⟩, rfl, rfl⟩⟩
end Go.Proofs.Ytdppjbiphekgjaa

namespace Go.Proofs.Ytdppjbiphekgjaa
open Go.Lg
set_option maxHeartbeats 3200000
set_option maxRecDepth 10000
set_option linter.unusedVariables false
set_option linter.unusedSimpArgs false

def renamed (p : Per) (b : ByteArray) : Per := { p with name := b }
def renPers (ps : List Per) (bs : List ByteArray) : List Per := List.zipWith renamed ps bs
theorem renPers_len {ps : List Per} {bs : List ByteArray} (h : bs.length = ps.length) : (renPers ps bs).length = ps.length := by simp [renPers, h]
def rowRN (ps : List Per) (bs : List ByteArray) (k : Nat) : List LV := (List.zipWith renamed (ps.take k) (bs.take k) ++ ps.drop k).map Per.lv
theorem rowRN_zero (ps : List Per) (bs : List ByteArray) : rowRN ps bs 0 = ps.map Per.lv := by simp [rowRN]
theorem rowRN_all {ps : List Per} {bs : List ByteArray} (h : bs.length = ps.length) : rowRN ps bs ps.length = (renPers ps bs).map Per.lv := by
  unfold rowRN renPers
  rw [List.take_length, ← h, List.take_length, h, List.drop_length, List.append_nil]
theorem rowRN_len {ps : List Per} {bs : List ByteArray} (h : bs.length = ps.length) {k : Nat} (hk : k ≤ ps.length) : (rowRN ps bs k).length = ps.length := by
  unfold rowRN
  rw [List.length_map, List.length_append, List.length_zipWith, List.length_take, List.length_take, List.length_drop]
  omega
theorem rowRN_get {ps : List Per} {bs : List ByteArray} (h : bs.length = ps.length) {k : Nat} (hk : k < ps.length) : (rowRN ps bs k)[k]? = some ps[k].lv := by
  unfold rowRN
  have hz : (List.zipWith renamed (ps.take k) (bs.take k)).length = k := by rw [List.length_zipWith, List.length_take, List.length_take]; omega
  rw [List.getElem?_map, List.getElem?_append_right (by rw [hz]; exact Nat.le_refl _), hz, Nat.sub_self, List.getElem?_drop, Nat.add_zero, List.getElem?_eq_getElem hk]
  rfl
theorem rowRN_set {ps : List Per} {bs : List ByteArray} (h : bs.length = ps.length) {k : Nat} (hk : k < ps.length) : (rowRN ps bs k).set k (renamed ps[k] (bs[k]'(by omega))).lv = rowRN ps bs (k + 1) := by
  unfold rowRN
  have hz : (List.zipWith renamed (ps.take k) (bs.take k)).length = k := by rw [List.length_zipWith, List.length_take, List.length_take]; omega
  have hkb : k < bs.length := by omega
  rw [List.drop_eq_getElem_cons hk, List.map_append, List.map_cons, List.set_append_right _ _ (by rw [List.length_map, hz]; exact Nat.le_refl _), List.length_map, hz, Nat.sub_self, List.set_cons_zero]
  rw [List.take_succ_eq_append_getElem hk, List.take_succ_eq_append_getElem hkb, List.zipWith_append (by rw [List.length_take, List.length_take]; omega)]
  simp
def okRN (ps : List Per) (us : List Uni) (bs : List ByteArray) : Bool := famOk ps us && (eqI (bs.length : Int) (ps.length : Int) && famOk (renPers ps bs) us)
def rnP (ps : List Per) (us : List Uni) (bs : List ByteArray) : List Per := match okRN ps us bs with | true => renPers ps bs | false => []
def rnU (ps : List Per) (us : List Uni) (bs : List ByteArray) : List Uni := match okRN ps us bs with | true => us | false => []
def rnLV (ps : List Per) (us : List Uni) (bs : List ByteArray) : LV := .tup [.st [.own 102 6 ((rnP ps us bs).map Per.lv), .own 131 4 ((rnU ps us bs).map Uni.lv)], .bool (okRN ps us bs)]
def rnHS (ps : List Per) (us : List Uni) (bs : List ByteArray) : LV := .tup [famHS ((rnP ps us bs).map Per.lv).length ((rnU ps us bs).map Uni.lv).length, .bool (okRN ps us bs)]
theorem rn_no {ps : List Per} {us : List Uni} {bs : List ByteArray} (h : okRN ps us bs = false) : rnLV ps us bs = .tup [.st [.own 102 6 [], .own 131 4 []], .bool false] ∧ rnHS ps us bs = .tup [famHS 0 0, .bool false] ∧ rnP ps us bs = [] ∧ rnU ps us bs = [] := by
  have e1 : rnP ps us bs = [] := by unfold rnP; rw [h]
  have e2 : rnU ps us bs = [] := by unfold rnU; rw [h]
  refine ⟨?_, ?_, e1, e2⟩
  · unfold rnLV; rw [h, e1, e2]; rfl
  · unfold rnHS; rw [h, e1, e2]; rfl
theorem rn_yes {ps : List Per} {us : List Uni} {bs : List ByteArray} (h : okRN ps us bs = true) : rnLV ps us bs = .tup [.st [.own 102 6 ((renPers ps bs).map Per.lv), .own 131 4 (us.map Uni.lv)], .bool true] ∧ rnHS ps us bs = .tup [famHS ((renPers ps bs).map Per.lv).length (us.map Uni.lv).length, .bool true] ∧ rnP ps us bs = renPers ps bs ∧ rnU ps us bs = us := by
  have e1 : rnP ps us bs = renPers ps bs := by unfold rnP; rw [h]
  have e2 : rnU ps us bs = us := by unfold rnU; rw [h]
  refine ⟨?_, ?_, e1, e2⟩
  · unfold rnLV; rw [h, e1, e2]
  · unfold rnHS; rw [h, e1, e2]
theorem rename_spec (ps : List Per) (us : List Uni) (bs : List ByteArray) (hp : ps.length ≤ 1048576) (hu : us.length ≤ 1048576) : FSpec env.P 42 [famLV ps us, strsLV bs] (rnLV ps us bs) := by
  refine FSpec_of_code (E := env.x [104] 0) env_ok.x (fn := Try.f42) Try.func42 rfl Try.call42 _ _ ?_
  have eb : (bs.map strLV).length = bs.length := List.length_map ..
  have ep : (ps.map Per.lv).length = ps.length := List.length_map ..
  ((repeat ((conv => whnf); first | refine brT ?_ | refine brF ?_)); conv => whnf)
  refine ⟨_, isFamily_spec ps us, ?_⟩
  ((repeat ((conv => whnf); first | refine brT ?_ | refine brF ?_)); conv => whnf)
  (refine ⟨fun h1 => ?_, fun h1 => ?_⟩ <;> rw [h1])
  · rw [(rn_no (by unfold okRN; rw [notB_t] at h1; rw [h1]; rfl)).1]
    ((repeat ((conv => whnf); first | refine brT ?_ | refine brF ?_)); conv => whnf)
    exact ⟨_, rfl, rfl, by decide, rfl, by decide, rfl, rfl, List.nodup_nil⟩
  rw [notB_f] at h1
  ((repeat ((conv => whnf); first | refine brT ?_ | refine brF ?_)); conv => whnf)
  intro hb
  ((repeat ((conv => whnf); first | refine brT ?_ | refine brF ?_)); conv => whnf)
  intro hq
  ((repeat ((conv => whnf); first | refine brT ?_ | refine brF ?_)); conv => whnf)
  rw [eb, ep]
  (refine ⟨fun h2 => ?_, fun h2 => ?_⟩ <;> rw [h2])
  · rw [(rn_no (by unfold okRN; rw [notB_t] at h2; rw [h2]; simp)).1]
    ((repeat ((conv => whnf); first | refine brT ?_ | refine brF ?_)); conv => whnf)
    exact ⟨_, rfl, rfl, by decide, rfl, by decide, rfl, rfl, List.nodup_nil⟩
  rw [notB_f] at h2
  have hlen : bs.length = ps.length := by rw [eqI_t] at h2; omega
  have hb' : bs.length ≤ Go.maxLen := by rw [← eb]; exact hb
  ((repeat ((conv => whnf); first | refine brT ?_ | refine brF ?_)); conv => whnf)
  refine ⟨[], _, _, _, _, l1Copy_h ps us hp hu, rfl, rfl, rfl, trivial, ?_⟩
  ((repeat ((conv => whnf); first | refine brT ?_ | refine brF ?_)); conv => whnf)
  intro _
  ((repeat ((conv => whnf); first | refine brT ?_ | refine brF ?_)); conv => whnf)
  rw [eb]
  refine loop_rule (α := Nat) (fun k => [(25, .int .i64 (k : Int))]) (fun k => [.box (famLV ps us), .box (.st [.nil, .nil]), .arr 102 6 (rowRN ps bs k), .arr 131 4 (us.map Uni.lv), .box (.st [.hs 2 (ps.map Per.lv).length, .hs 3 (us.map Uni.lv).length])]) (fun k => bs.length - k) (fun k => k ≤ bs.length) 0 (Nat.zero_le _) ?_ ?_
  · refine ⟨?_, ⟨rfl, rfl, congrArg (Blk.arr 102 6) (rowRN_zero ps bs).symm, rfl, rfl, trivial⟩, rfl, rfl⟩
    ((repeat ((conv => whnf); refine ⟨rfl, ?_⟩)); trivial)
  intro k hk
  ((repeat ((conv => whnf); first | refine brT ?_ | refine brF ?_)); conv => whnf)
  (refine ⟨fun g1 => ?_, fun g1 => ?_⟩ <;> rw [g1])
  · have hltb : k < bs.length := by rw [ltI_t] at g1; omega
    have hlt : k < ps.length := by omega
    have e := step_i hltb hb'
    have hL := rowRN_len hlen (Nat.le_of_lt hlt)
    have hg := rowRN_get hlen hlt
    have hset := rowRN_set hlen hlt
    ((repeat ((conv => whnf); first | refine brT ?_ | refine brF ?_)); conv => whnf)
    refine ⟨k, strLV bs[k], rfl, by simp [hltb], rfl, ?_⟩
    have hkL : k < (rowRN ps bs k).length := by omega
    have hfin : (rowRN ps bs k).set k (.st [.str bs[k], .int .i64 ps[k].sex, .int .i64 ps[k].father, .int .i64 ps[k].mother, .int .i64 ps[k].born, .int .i64 ps[k].died]) = rowRN ps bs (k + 1) := hset
    have eL : (ps.map Per.lv).length = (rowRN ps bs k).length := by rw [hL, ep]
    have hgp : getP (.st (rowRN ps bs k)) [k] = some (.st [LV.str ps[k].name, LV.int .i64 ps[k].sex, LV.int .i64 ps[k].father, LV.int .i64 ps[k].mother, LV.int .i64 ps[k].born, LV.int .i64 ps[k].died]) := by simp [getP, hg, Per.lv]
    have hgp0 : getP (.st (rowRN ps bs k)) [k, 0] = some (.str ps[k].name) := by simp [getP, hg, Per.lv]
    ((repeat ((conv => whnf); first | refine brT ?_ | refine brF ?_)); conv => whnf)
    refine ⟨eL, rfl, k, rfl, hkL, ?_⟩
    ((repeat ((conv => whnf); first | refine brT ?_ | refine brF ?_)); conv => whnf)
    refine ⟨eL, by simp, [LV.str ps[k].name, LV.int .i64 ps[k].sex, LV.int .i64 ps[k].father, LV.int .i64 ps[k].mother, LV.int .i64 ps[k].born, LV.int .i64 ps[k].died], hgp, rfl, by simp, ?_⟩
    ((repeat ((conv => whnf); first | refine brT ?_ | refine brF ?_)); conv => whnf)
    refine ⟨eL, k, [0], .str ps[k].name, rfl, hgp0, rfl, rfl, rfl, rowRN ps bs (k + 1), by rw [hg]; exact hfin, ?_⟩
    ((repeat ((conv => whnf); first | refine brT ?_ | refine brF ?_)); conv => whnf)
    refine round_end (k + 1) hltb (by omega) ⟨?_, ⟨rfl, rfl, rfl, rfl, rfl, trivial⟩, rfl, rfl⟩
    ((repeat ((conv => whnf); first | refine ⟨e, ?_⟩ | refine ⟨rfl, ?_⟩)); trivial)
  · have h3 : k = ps.length := by rw [ltI_f] at g1; omega
    subst h3
    rw [rowRN_all hlen]
    have er : ((renPers ps bs).map Per.lv).length = (ps.map Per.lv).length := by rw [List.length_map, renPers_len hlen, ep]
    rw [← er]
    ((repeat ((conv => whnf); first | refine brT ?_ | refine brF ?_)); conv => whnf)
    refine ⟨rfl, ?_⟩
    ((repeat ((conv => whnf); first | refine brT ?_ | refine brF ?_)); conv => whnf)
    refine ⟨rfl, ?_⟩
    ((repeat ((conv => whnf); first | refine brT ?_ | refine brF ?_)); conv => whnf)
    refine ⟨_, isFamily_spec (renPers ps bs) us, ?_⟩
    ((repeat ((conv => whnf); first | refine brT ?_ | refine brF ?_)); conv => whnf)
    (refine ⟨fun g2 => ?_, fun g2 => ?_⟩ <;> rw [g2])
    · rw [(rn_no (by unfold okRN; rw [notB_t] at g2; rw [g2]; simp)).1]
      ((repeat ((conv => whnf); first | refine brT ?_ | refine brF ?_)); conv => whnf)
      exact ⟨_, rfl, rfl, by decide, rfl, by decide, rfl, rfl, List.nodup_nil⟩
    · rw [(rn_yes (by unfold okRN; rw [notB_f] at g2; rw [g2, h1, h2]; rfl)).1]
      ((repeat ((conv => whnf); first | refine brT ?_ | refine brF ?_)); conv => whnf)
      exact ⟨_, rfl, rfl, rfl, rfl, rfl, rfl, rfl, rfl, rfl, rfl, rfl, by simp [exsW]⟩
end Go.Proofs.Ytdppjbiphekgjaa
