/- Contracts of functions of the program and of its model, told over readings. -/
import Derived.Test.YtikbpfcehgmmnaaBEnv
namespace Go.Proofs.Ytikbpfcehgmmnaa
open Go.Lg
set_option maxHeartbeats 400000
set_option linter.unusedVariables false
set_option linter.unusedSimpArgs false


structure Per where
  name : ByteArray
  sex : Int
  father : Int
  mother : Int
  born : Int
  died : Int
def Per.lv (p : Per) : LV := .st [.str p.name, .int .i64 p.sex, .int .i64 p.father, .int .i64 p.mother, .int .i64 p.born, .int .i64 p.died]
def Per.eq (p q : Per) : Bool := eqS p.name q.name && (eqI p.sex q.sex && (eqI p.father q.father && (eqI p.mother q.mother && (eqI p.born q.born && (eqI p.died q.died && true)))))
structure Uni where
  husband : Int
  wife : Int
  since : Int
  till : Int
def Uni.lv (p : Uni) : LV := .st [.int .i64 p.husband, .int .i64 p.wife, .int .i64 p.since, .int .i64 p.till]
def Uni.eq (p q : Uni) : Bool := eqI p.husband q.husband && (eqI p.wife q.wife && (eqI p.since q.since && (eqI p.till q.till && true)))

def eqList {α : Type} (eq : α → α → Bool) : List α → List α → Bool
  | [], [] => true
  | x :: xs, y :: ys => eq x y && eqList eq xs ys
  | _, _ => false

def eqTo {α : Type} (eq : α → α → Bool) (xs ys : List α) (k : Nat) : Prop := ∀ j x y, j < k → xs[j]? = some x → ys[j]? = some y → eq x y = true
theorem eqTo.succ {α : Type} {eq : α → α → Bool} {xs ys : List α} {k : Nat} (h : eqTo eq xs ys k) {x y : α} (hx : xs[k]? = some x) (hy : ys[k]? = some y) (e : eq x y = true) : eqTo eq xs ys (k + 1) := by
  intro j x' y' hj hx' hy'
  by_cases ej : j = k
  · subst ej
    rw [hx] at hx'
    rw [hy] at hy'
    cases hx'; cases hy'
    exact e
  · exact h j x' y' (by omega) hx' hy'
theorem eqTo.all {α : Type} {eq : α → α → Bool} : ∀ {xs ys : List α}, xs.length = ys.length → eqTo eq xs ys xs.length → eqList eq xs ys = true
  | [], [], _, _ => rfl
  | [], _ :: _, hl, _ => by simp at hl
  | _ :: _, [], hl, _ => by simp at hl
  | x :: xs, y :: ys, hl, h => by
    simp only [eqList, Bool.and_eq_true]
    refine ⟨h 0 x y (by simp) rfl rfl, eqTo.all (by simpa using hl) fun j x' y' hj hx hy => h (j + 1) x' y' (by simpa using hj) (by simpa using hx) (by simpa using hy)⟩
theorem eqList_no {α : Type} {eq : α → α → Bool} : ∀ {xs ys : List α} {k : Nat} {x y : α}, xs[k]? = some x → ys[k]? = some y → eq x y = false → eqList eq xs ys = false
  | [], _, k, _, _, h, _, _ => by simp at h
  | _ :: _, [], k, _, _, _, h, _ => by simp at h
  | a :: xs, b :: ys, 0, x, y, h1, h2, h3 => by simp at h1 h2; subst h1; subst h2; simp [eqList, h3]
  | a :: xs, b :: ys, k + 1, x, y, h1, h2, h3 => by
    simp only [eqList]
    rw [eqList_no (k := k) (by simpa using h1) (by simpa using h2) h3]
    simp
theorem eqList_len {α : Type} {eq : α → α → Bool} : ∀ {xs ys : List α}, xs.length ≠ ys.length → eqList eq xs ys = false
  | [], [], h => absurd rfl h
  | [], _ :: _, _ => rfl
  | _ :: _, [], _ => rfl
  | x :: xs, y :: ys, h => by simp only [eqList]; rw [eqList_len (by simpa using h)]; simp

theorem eqPersons_spec (ps qs : List Per) : FSpec env.P 95 [.sl (ps.map Per.lv), .sl (qs.map Per.lv)] (.bool (eqList Per.eq ps qs)) := by
  refine FSpec_of_code env_ok (fn := Try.f95) Try.func95 rfl Try.call95 _ _ ?_
  conv => whnf
  intro hp
  conv => whnf
  intro hq
  conv => whnf
  refine ⟨fun h => ?_, fun h => ?_⟩ <;> rw [h]
  · conv => whnf
    refine fin ?_
    rw [notB_t, eqI_f] at h
    rw [eqList_len (by simp at h; omega)]
  · rw [notB_f, eqI_t] at h
    have hl : ps.length = qs.length := by simp at h; omega
    have hp' : ps.length ≤ Go.maxLen := by simpa using hp
    conv => whnf
    intro _
    conv => whnf
    refine loop_rule (α := Nat) (fun k => [(13, .int .i64 (k : Int))]) (fun _ => []) (fun k => ps.length - k) (fun k => k ≤ ps.length ∧ eqTo Per.eq ps qs k) 0 ⟨Nat.zero_le _, fun _ _ _ h => absurd h (Nat.not_lt_zero _)⟩ ?_ ?_
    · refine ⟨?_, trivial, rfl, rfl⟩
      repeat ((conv => whnf); refine ⟨rfl, ?_⟩)
      trivial
    · rintro k ⟨hk, he⟩
      conv => whnf
      refine ⟨fun h1 => ?_, fun h1 => ?_⟩ <;> rw [h1]
      · have hlt : k < ps.length := by rw [ltI_t] at h1; simp at h1; omega
        have hlt2 : k < qs.length := by omega
        conv => whnf
        refine ⟨by kernel_rfl, ?_⟩
        conv => whnf
        refine ⟨k, ps[k].lv, rfl, by simp [hlt], rfl, ?_⟩
        conv => whnf
        refine ⟨k, qs[k].lv, rfl, by simp [hlt2], rfl, ?_⟩
        conv => whnf
        refine ⟨fun h2 => ?_, fun h2 => ?_⟩ <;> rw [h2]
        · rw [notB_t] at h2
          conv => whnf
          refine fin ?_
          rw [eqList_no (k := k) (x := ps[k]) (y := qs[k]) (by simp [hlt]) (by simp [hlt2]) h2]
        · rw [notB_f] at h2
          conv => whnf
          refine round_end (k + 1) ⟨hlt, he.succ (x := ps[k]) (y := qs[k]) (by simp [hlt]) (by simp [hlt2]) h2⟩ (by omega) ⟨?_, trivial, rfl, rfl⟩
          have e := step_i hlt hp'
          repeat ((conv => whnf); first | refine ⟨e, ?_⟩ | refine ⟨rfl, ?_⟩)
          trivial
      · conv => whnf
        refine fin ?_
        have h3 : ps.length ≤ k := by rw [ltI_f] at h1; simp at h1; omega
        have h4 : k = ps.length := by omega
        subst h4
        rw [eqTo.all hl he]

theorem eqUnions_spec (ps qs : List Uni) : FSpec env.P 96 [.sl (ps.map Uni.lv), .sl (qs.map Uni.lv)] (.bool (eqList Uni.eq ps qs)) := by
  refine FSpec_of_code env_ok (fn := Try.f96) Try.func96 rfl Try.call96 _ _ ?_
  conv => whnf
  intro hp
  conv => whnf
  intro hq
  conv => whnf
  refine ⟨fun h => ?_, fun h => ?_⟩ <;> rw [h]
  · conv => whnf
    refine fin ?_
    rw [notB_t, eqI_f] at h
    rw [eqList_len (by simp at h; omega)]
  · rw [notB_f, eqI_t] at h
    have hl : ps.length = qs.length := by simp at h; omega
    have hp' : ps.length ≤ Go.maxLen := by simpa using hp
    conv => whnf
    intro _
    conv => whnf
    refine loop_rule (α := Nat) (fun k => [(13, .int .i64 (k : Int))]) (fun _ => []) (fun k => ps.length - k) (fun k => k ≤ ps.length ∧ eqTo Uni.eq ps qs k) 0 ⟨Nat.zero_le _, fun _ _ _ h => absurd h (Nat.not_lt_zero _)⟩ ?_ ?_
    · refine ⟨?_, trivial, rfl, rfl⟩
      repeat ((conv => whnf); refine ⟨rfl, ?_⟩)
      trivial
    · rintro k ⟨hk, he⟩
      conv => whnf
      refine ⟨fun h1 => ?_, fun h1 => ?_⟩ <;> rw [h1]
      · have hlt : k < ps.length := by rw [ltI_t] at h1; simp at h1; omega
        have hlt2 : k < qs.length := by omega
        conv => whnf
        refine ⟨by kernel_rfl, ?_⟩
        conv => whnf
        refine ⟨k, ps[k].lv, rfl, by simp [hlt], rfl, ?_⟩
        conv => whnf
        refine ⟨k, qs[k].lv, rfl, by simp [hlt2], rfl, ?_⟩
        conv => whnf
        refine ⟨fun h2 => ?_, fun h2 => ?_⟩ <;> rw [h2]
        · rw [notB_t] at h2
          conv => whnf
          refine fin ?_
          rw [eqList_no (k := k) (x := ps[k]) (y := qs[k]) (by simp [hlt]) (by simp [hlt2]) h2]
        · rw [notB_f] at h2
          conv => whnf
          refine round_end (k + 1) ⟨hlt, he.succ (x := ps[k]) (y := qs[k]) (by simp [hlt]) (by simp [hlt2]) h2⟩ (by omega) ⟨?_, trivial, rfl, rfl⟩
          have e := step_i hlt hp'
          repeat ((conv => whnf); first | refine ⟨e, ?_⟩ | refine ⟨rfl, ?_⟩)
          trivial
      · conv => whnf
        refine fin ?_
        have h3 : ps.length ≤ k := by rw [ltI_f] at h1; simp at h1; omega
        have h4 : k = ps.length := by omega
        subst h4
        rw [eqTo.all hl he]

def famLV (ps : List Per) (us : List Uni) : LV := .st [.sl (ps.map Per.lv), .sl (us.map Uni.lv)]

/-- impl.EqualFamilies -/
theorem equalFamilies_impl (ps qs : List Per) (us vs : List Uni) : FSpec env.P 37 [famLV ps us, famLV qs vs] (.bool (eqList Per.eq ps qs && eqList Uni.eq us vs)) := by
  refine FSpec_of_code env_ok (fn := Try.f37) Try.func37 rfl Try.call37 _ _ ?_
  conv => whnf
  refine ⟨_, eqPersons_spec ps qs, ?_⟩
  conv => whnf
  refine ⟨fun h => ?_, fun h => ?_⟩ <;> rw [h]
  · ((repeat ((conv => whnf); first | refine brT ?_ | refine brF ?_)); conv => whnf)
    refine ⟨_, eqUnions_spec us vs, ?_⟩
    ((repeat ((conv => whnf); first | refine brT ?_ | refine brF ?_)); conv => whnf)
    exact fin rfl
  · ((repeat ((conv => whnf); first | refine brT ?_ | refine brF ?_)); conv => whnf)
    exact fin rfl

theorem eqI_len {α : Type} {xs ys : List α} {f : α → LV} (h : eqI ((xs.map f).length : Int) ((ys.map f).length : Int) = true) : xs.length = ys.length := by
  rw [eqI_t] at h; simp at h; omega
theorem eqI_nolen {α : Type} {xs ys : List α} {f : α → LV} (h : eqI ((xs.map f).length : Int) ((ys.map f).length : Int) = false) : xs.length ≠ ys.length := by
  rw [eqI_f] at h; simp at h; omega

/-- spec.EqualFamilies -/
theorem equalFamilies_spec (ps qs : List Per) (us vs : List Uni) : FSpec env.P 36 [famLV ps us, famLV qs vs] (.bool (eqList Per.eq ps qs && eqList Uni.eq us vs)) := by
  refine FSpec_of_code env_ok (fn := Try.f36) Try.func36 rfl Try.call36 _ _ ?_
  conv => whnf
  intro hp
  conv => whnf
  intro hq
  conv => whnf
  refine ⟨fun h => ?_, fun h => ?_⟩ <;> rw [h]
  · ((repeat ((conv => whnf); first | refine brT ?_ | refine brF ?_)); conv => whnf)
    refine fin ?_
    rw [notB_t] at h
    rw [eqList_len (eqI_nolen h)]
    rfl
  rw [notB_f] at h
  have hl := eqI_len h
  have hp' : ps.length ≤ Go.maxLen := by simpa using hp
  ((repeat ((conv => whnf); first | refine brT ?_ | refine brF ?_)); conv => whnf)
  intro hu
  ((repeat ((conv => whnf); first | refine brT ?_ | refine brF ?_)); conv => whnf)
  intro hv
  ((repeat ((conv => whnf); first | refine brT ?_ | refine brF ?_)); conv => whnf)
  refine ⟨fun h2 => ?_, fun h2 => ?_⟩ <;> rw [h2]
  · ((repeat ((conv => whnf); first | refine brT ?_ | refine brF ?_)); conv => whnf)
    refine fin ?_
    rw [notB_t] at h2
    rw [eqList_len (xs := us) (ys := vs) (eqI_nolen h2), Bool.and_false]
  rw [notB_f] at h2
  have hl2 := eqI_len h2
  have hu' : us.length ≤ Go.maxLen := by simpa using hu
  ((repeat ((conv => whnf); first | refine brT ?_ | refine brF ?_)); conv => whnf)
  intro _
  ((repeat ((conv => whnf); first | refine brT ?_ | refine brF ?_)); conv => whnf)
  refine loop_rule (α := Nat) (fun k => [(26, .int .i64 (k : Int))]) (fun _ => [.box (famLV ps us), .box (famLV qs vs)]) (fun k => ps.length - k) (fun k => k ≤ ps.length ∧ eqTo Per.eq ps qs k) 0 ⟨Nat.zero_le _, fun _ _ _ h => absurd h (Nat.not_lt_zero _)⟩ ?_ ?_
  · refine ⟨?_, ⟨rfl, rfl, trivial⟩, rfl, rfl⟩
    repeat ((conv => whnf); refine ⟨rfl, ?_⟩)
    trivial
  rintro k ⟨hk, he⟩
  conv => whnf
  refine ⟨fun h1 => ?_, fun h1 => ?_⟩ <;> rw [h1]
  · have hlt : k < ps.length := by rw [ltI_t] at h1; simp at h1; omega
    have hlt2 : k < qs.length := by omega
    ((repeat ((conv => whnf); first | refine brT ?_ | refine brF ?_)); conv => whnf)
    refine ⟨by kernel_rfl, ?_⟩
    ((repeat ((conv => whnf); first | refine brT ?_ | refine brF ?_)); conv => whnf)
    refine ⟨k, ps[k].lv, rfl, by simp [hlt], rfl, ?_⟩
    ((repeat ((conv => whnf); first | refine brT ?_ | refine brF ?_)); conv => whnf)
    refine ⟨k, qs[k].lv, rfl, by simp [hlt2], rfl, ?_⟩
    ((repeat ((conv => whnf); first | refine brT ?_ | refine brF ?_)); conv => whnf)
    refine ⟨fun h3 => ?_, fun h3 => ?_⟩ <;> rw [h3]
    · rw [notB_t] at h3
      ((repeat ((conv => whnf); first | refine brT ?_ | refine brF ?_)); conv => whnf)
      refine fin ?_
      rw [eqList_no (k := k) (x := ps[k]) (y := qs[k]) (by simp [hlt]) (by simp [hlt2]) h3]
      rfl
    · rw [notB_f] at h3
      ((repeat ((conv => whnf); first | refine brT ?_ | refine brF ?_)); conv => whnf)
      refine round_end (k + 1) ⟨hlt, he.succ (x := ps[k]) (y := qs[k]) (by simp [hlt]) (by simp [hlt2]) h3⟩ (by omega) ⟨?_, ⟨rfl, rfl, trivial⟩, rfl, rfl⟩
      have e := step_i hlt hp'
      repeat ((conv => whnf); first | refine ⟨e, ?_⟩ | refine ⟨rfl, ?_⟩)
      trivial
  · have h3 : ps.length ≤ k := by rw [ltI_f] at h1; simp at h1; omega
    have h4 : k = ps.length := by omega
    subst h4
    have e1 := eqTo.all hl he
    ((repeat ((conv => whnf); first | refine brT ?_ | refine brF ?_)); conv => whnf)
    intro _
    ((repeat ((conv => whnf); first | refine brT ?_ | refine brF ?_)); conv => whnf)
    refine loop_rule (α := Nat) (fun k => [(44, .int .i64 (k : Int))]) (fun _ => [.box (famLV ps us), .box (famLV qs vs)]) (fun k => us.length - k) (fun k => k ≤ us.length ∧ eqTo Uni.eq us vs k) 0 ⟨Nat.zero_le _, fun _ _ _ h => absurd h (Nat.not_lt_zero _)⟩ ?_ ?_
    · refine ⟨?_, ⟨rfl, rfl, trivial⟩, rfl, rfl⟩
      repeat ((conv => whnf); refine ⟨rfl, ?_⟩)
      trivial
    rintro k ⟨hk, he⟩
    conv => whnf
    refine ⟨fun h1 => ?_, fun h1 => ?_⟩ <;> rw [h1]
    · have hlt : k < us.length := by rw [ltI_t] at h1; simp at h1; omega
      have hlt2 : k < vs.length := by omega
      ((repeat ((conv => whnf); first | refine brT ?_ | refine brF ?_)); conv => whnf)
      refine ⟨by kernel_rfl, ?_⟩
      ((repeat ((conv => whnf); first | refine brT ?_ | refine brF ?_)); conv => whnf)
      refine ⟨k, us[k].lv, rfl, by simp [hlt], rfl, ?_⟩
      ((repeat ((conv => whnf); first | refine brT ?_ | refine brF ?_)); conv => whnf)
      refine ⟨k, vs[k].lv, rfl, by simp [hlt2], rfl, ?_⟩
      ((repeat ((conv => whnf); first | refine brT ?_ | refine brF ?_)); conv => whnf)
      refine ⟨fun h3 => ?_, fun h3 => ?_⟩ <;> rw [h3]
      · rw [notB_t] at h3
        ((repeat ((conv => whnf); first | refine brT ?_ | refine brF ?_)); conv => whnf)
        refine fin ?_
        rw [eqList_no (xs := us) (ys := vs) (k := k) (x := us[k]) (y := vs[k]) (by simp [hlt]) (by simp [hlt2]) h3, Bool.and_false]
      · rw [notB_f] at h3
        ((repeat ((conv => whnf); first | refine brT ?_ | refine brF ?_)); conv => whnf)
        refine round_end (k + 1) ⟨hlt, he.succ (x := us[k]) (y := vs[k]) (by simp [hlt]) (by simp [hlt2]) h3⟩ (by omega) ⟨?_, ⟨rfl, rfl, trivial⟩, rfl, rfl⟩
        have e := step_i hlt hu'
        repeat ((conv => whnf); first | refine ⟨e, ?_⟩ | refine ⟨rfl, ?_⟩)
        trivial
    · have h3 : us.length ≤ k := by rw [ltI_f] at h1; simp at h1; omega
      have h4 : k = us.length := by omega
      subst h4
      have e2 := eqTo.all hl2 he
      ((repeat ((conv => whnf); first | refine brT ?_ | refine brF ?_)); conv => whnf)
      refine fin ?_
      rw [e1, e2]
      rfl
end Go.Proofs.Ytikbpfcehgmmnaa
