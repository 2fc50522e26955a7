/- Contracts of functions of the program and of its model, told over readings. -/
import Derived.Test.YtbiagkccgijdlaaAWGA
import Derived.Test.YtbiagkccgijdlaaALgW
namespace Go.Proofs.Ytbiagkccgijdlaa
open Go.Lg Go.Pm
set_option maxHeartbeats 1600000
set_option maxRecDepth 10000
set_option linter.unusedVariables false
set_option linter.unusedSimpArgs false

/-! ### Customs -/
def prefL : List LV := [.str ⟨#[97, 110, 121]⟩, .str ⟨#[109, 101, 110]⟩, .str ⟨#[119, 111, 109, 101, 110]⟩, .str ⟨#[111, 110, 108, 121, 32, 109, 101, 110]⟩, .str ⟨#[111, 110, 108, 121, 32, 119, 111, 109, 101, 110]⟩]
theorem words_spec : FSpec env.P 52 [] (.own 9 1 prefL) := by
  refine FSpec_of_code env_ok (fn := Try.f52) Try.func52 rfl Try.call52 _ _ ?_
  ((repeat ((conv => whnf); first | refine brT ?_ | refine brF ?_)); conv => whnf)
  exact ⟨rfl, rfl, rfl, rfl, by simp⟩
theorem cus_spec (x : Cus) : FSpec env.P 12 [x.lv] (.bool (cusOk x)) := by
  have h := l1In_spec x.prefer 0 4
  unfold cusOk
  obtain ⟨p, y, r⟩ := x
  refine FSpec_of_code env_ok (fn := Try.f12) Try.func12 rfl Try.call12 _ _ ?_
  ((repeat ((conv => whnf); first | refine brT ?_ | refine brF ?_)); conv => whnf)
  refine ⟨_, h, ?_⟩
  ((repeat ((conv => whnf); first | refine brT ?_ | refine brF ?_)); conv => whnf)
  exact fin rfl
theorem cus_bel (x : Cus) : belI x.prefer ((5 : Nat) : Int) = cusOk x := by
  unfold belI cusOk
  congr 1
  rw [Bool.eq_iff_iff, ltI_t, leI_t]
  omega
theorem cus_impl (x : Cus) : FSpec env.P 14 [x.lv] (.bool (cusOk x)) := by
  have h := isBelow_spec x.prefer 5
  rw [← cus_bel]
  obtain ⟨p, y, r⟩ := x
  refine FSpec_of_code env_ok (fn := Try.f14) Try.func14 rfl Try.call14 _ _ ?_
  ((repeat ((conv => whnf); first | refine brT ?_ | refine brF ?_)); conv => whnf)
  refine ⟨true, by kernel_rfl, ?_⟩
  ((repeat ((conv => whnf); first | refine brT ?_ | refine brF ?_)); conv => whnf)
  refine ⟨_, words_spec, ?_⟩
  ((repeat ((conv => whnf); first | refine brT ?_ | refine brF ?_)); conv => whnf)
  intro _
  ((repeat ((conv => whnf); first | refine brT ?_ | refine brF ?_)); conv => whnf)
  refine ⟨_, h, ?_⟩
  ((repeat ((conv => whnf); first | refine brT ?_ | refine brF ?_)); conv => whnf)
  exact fin rfl
theorem toCus_spec (x : Cus) : FSpec env.P 13 [x.lv] x.lv := by
  obtain ⟨p, y, r⟩ := x
  refine FSpec_of_code env_ok (fn := Try.f13) Try.func13 rfl Try.call13 _ _ ?_
  ((repeat ((conv => whnf); first | refine brT ?_ | refine brF ?_)); conv => whnf)
  refine ⟨_, rfl, rfl, ?_⟩
  simp [Cus.lv, exW, exsW]
abbrev shCus : Sh := .st [.int .i64, .bool, .bool]
theorem cus_of_sh {x : LV} (h : hasSh shCus x) : ∃ l : Cus, x = l.lv ∧ True := by
  simp only [hasSh] at h
  obtain ⟨xs, rfl, h⟩ := h
  match xs, h with
  | [a, b, c], h =>
    simp only [hasShs, hasSh] at h
    obtain ⟨⟨a, rfl⟩, ⟨b, rfl⟩, ⟨c, rfl⟩, _⟩ := h
    exact ⟨⟨a, b, c⟩, rfl, trivial⟩
  | [], h => simp [hasShs] at h
  | [_], h => simp [hasShs] at h
  | [_, _], h => simp [hasShs] at h
  | _ :: _ :: _ :: _ :: _, h => simp [hasShs] at h
theorem law_isCustom (x : Cus) : FSpec env.P 3 [x.lv] (.bool true) := by
  have h1 := toCus_spec x
  have h2 := cus_spec x
  have h3 := cus_impl x
  generalize cusOk x = b at h2 h3
  obtain ⟨p, y, r⟩ := x
  refine FSpec_of_code env_ok (fn := Try.f3) Try.func3 rfl Try.call3 _ _ ?_
  ((repeat' (((repeat ((conv => whnf); first | refine brT ?_ | refine brF ?_)); conv => whnf); first | (refine And.intro ?_ ?_ <;> (intro h; rw [h]; revert h; intro _)) | (refine Exists.intro true (And.intro (a := drawB _ _ = true) (by kernel_rfl) ?_)) | (refine Exists.intro _ (And.intro (h1) ?_)) | (refine Exists.intro _ (And.intro (h2) ?_)) | (refine Exists.intro _ (And.intro (h3) ?_)))); all_goals ((repeat ((conv => whnf); first | refine brT ?_ | refine brF ?_)); conv => whnf))
  all_goals (refine fin ?_; simp_all [notB, eqB_refl])

/-! ### Customs as words -/
def prefW (p : Int) : ByteArray := match prefL[p.toNat]? with | some (.str s) => s | _ => ⟨#[]⟩
@[reducible] def youngW : ByteArray := ⟨#[32, 121, 111, 117, 110, 103, 101, 115, 116]⟩
@[reducible] def reprW : ByteArray := ⟨#[32, 114, 101, 112, 114, 101, 115, 101, 110, 116]⟩
def fmtC (x : Cus) : ByteArray := match cusOk x with
  | false => ⟨#[]⟩
  | true => match x.young, x.repr with
    | false, false => prefW x.prefer
    | true, false => prefW x.prefer ++ youngW
    | false, true => prefW x.prefer ++ reprW
    | true, true => (prefW x.prefer ++ youngW) ++ reprW
theorem pref_get {x : Cus} (h : cusOk x = true) : prefL[x.prefer.toNat]? = some (.str (prefW x.prefer)) ∧ x.prefer = (x.prefer.toNat : Int) := by
  unfold cusOk at h
  rw [Bool.and_eq_true, leI_t, leI_t] at h
  have : x.prefer = 0 ∨ x.prefer = 1 ∨ x.prefer = 2 ∨ x.prefer = 3 ∨ x.prefer = 4 := by omega
  refine ⟨?_, by omega⟩
  rcases this with e | e | e | e | e <;> (rw [e]; rfl)
theorem pref_len (p : Int) : (prefW p).size ≤ 10 := by
  unfold prefW
  split
  · rename_i s h
    have := List.mem_of_getElem? h
    simp [prefL] at this
    rcases this with rfl | rfl | rfl | rfl | rfl <;> decide
  · decide
theorem fmt_impl (x : Cus) : FSpec env.P 16 [x.lv] (.str (fmtC x)) := by
  have h := cus_impl x
  have hl := pref_len x.prefer
  refine FSpec_of_code env_ok (fn := Try.f16) Try.func16 rfl Try.call16 _ _ ?_
  unfold fmtC
  cases hc : cusOk x
  · rw [hc] at h
    obtain ⟨p, y, r⟩ := x
    ((repeat ((conv => whnf); first | refine brT ?_ | refine brF ?_)); conv => whnf)
    refine ⟨_, h, ?_⟩
    ((repeat ((conv => whnf); first | refine brT ?_ | refine brF ?_)); conv => whnf)
    rw [show notB false = true by simp [notB]]
    ((repeat ((conv => whnf); first | refine brT ?_ | refine brF ?_)); conv => whnf)
    exact fin rfl
  · rw [hc] at h
    obtain ⟨g1, g2⟩ := pref_get hc
    obtain ⟨p, y, r⟩ := x
    simp only at g1 g2 hl
    ((repeat ((conv => whnf); first | refine brT ?_ | refine brF ?_)); conv => whnf)
    refine ⟨_, h, ?_⟩
    ((repeat ((conv => whnf); first | refine brT ?_ | refine brF ?_)); conv => whnf)
    rw [show notB true = false by simp [notB]]
    ((repeat ((conv => whnf); first | refine brT ?_ | refine brF ?_)); conv => whnf)
    refine ⟨true, by kernel_rfl, ?_⟩
    ((repeat ((conv => whnf); first | refine brT ?_ | refine brF ?_)); conv => whnf)
    refine ⟨_, words_spec, ?_⟩
    ((repeat ((conv => whnf); first | refine brT ?_ | refine brF ?_)); conv => whnf)
    refine ⟨_, _, g2, g1, rfl, ?_⟩
    cases y <;> cases r
    · ((repeat ((conv => whnf); first | refine brT ?_ | refine brF ?_)); conv => whnf)
      exact fin rfl
    · ((repeat ((conv => whnf); first | refine brT ?_ | refine brF ?_)); conv => whnf)
      refine ⟨by show (prefW p).size + 10 ≤ _; unfold Go.maxLen; omega, ?_⟩
      ((repeat ((conv => whnf); first | refine brT ?_ | refine brF ?_)); conv => whnf)
      exact fin rfl
    · ((repeat ((conv => whnf); first | refine brT ?_ | refine brF ?_)); conv => whnf)
      refine ⟨by show (prefW p).size + 9 ≤ _; unfold Go.maxLen; omega, ?_⟩
      ((repeat ((conv => whnf); first | refine brT ?_ | refine brF ?_)); conv => whnf)
      exact fin rfl
    · ((repeat ((conv => whnf); first | refine brT ?_ | refine brF ?_)); conv => whnf)
      refine ⟨by show (prefW p).size + 9 ≤ _; unfold Go.maxLen; omega, ?_⟩
      ((repeat ((conv => whnf); first | refine brT ?_ | refine brF ?_)); conv => whnf)
      refine ⟨by rw [ByteArray.size_append]; show (prefW p).size + 9 + 10 ≤ _; unfold Go.maxLen; omega, ?_⟩
      ((repeat ((conv => whnf); first | refine brT ?_ | refine brF ?_)); conv => whnf)
      exact fin rfl
theorem fmt_spec (x : Cus) : FSpec env.P 15 [x.lv] (.str (fmtC x)) := by
  have h := cus_spec x
  have hl := pref_len x.prefer
  refine FSpec_of_code env_ok (fn := Try.f15) Try.func15 rfl Try.call15 _ _ ?_
  unfold fmtC
  cases hc : cusOk x
  · rw [hc] at h
    obtain ⟨p, y, r⟩ := x
    ((repeat ((conv => whnf); first | refine brT ?_ | refine brF ?_)); conv => whnf)
    refine ⟨_, h, ?_⟩
    ((repeat ((conv => whnf); first | refine brT ?_ | refine brF ?_)); conv => whnf)
    rw [show notB false = true by simp [notB]]
    ((repeat ((conv => whnf); first | refine brT ?_ | refine brF ?_)); conv => whnf)
    exact fin rfl
  · rw [hc] at h
    obtain ⟨g1, g2⟩ := pref_get hc
    obtain ⟨p, y, r⟩ := x
    simp only at g1 g2 hl
    ((repeat ((conv => whnf); first | refine brT ?_ | refine brF ?_)); conv => whnf)
    refine ⟨_, h, ?_⟩
    ((repeat ((conv => whnf); first | refine brT ?_ | refine brF ?_)); conv => whnf)
    rw [show notB true = false by simp [notB]]
    ((repeat ((conv => whnf); first | refine brT ?_ | refine brF ?_)); conv => whnf)
    refine ⟨rfl, rfl, p.toNat, g2, by have := (List.getElem?_eq_some_iff.1 g1).1; exact this, ?_⟩
    ((repeat ((conv => whnf); first | refine brT ?_ | refine brF ?_)); conv => whnf)
    refine ⟨rfl, by simp, .str (prefW p), by show (match prefL[p.toNat]? with | some x => getP x [] | none => none) = _; rw [g1]; rfl, rfl, ?_⟩
    cases y <;> cases r
    · ((repeat ((conv => whnf); first | refine brT ?_ | refine brF ?_)); conv => whnf)
      exact fin rfl
    · ((repeat ((conv => whnf); first | refine brT ?_ | refine brF ?_)); conv => whnf)
      refine ⟨by show (prefW p).size + 10 ≤ _; unfold Go.maxLen; omega, ?_⟩
      ((repeat ((conv => whnf); first | refine brT ?_ | refine brF ?_)); conv => whnf)
      exact fin rfl
    · ((repeat ((conv => whnf); first | refine brT ?_ | refine brF ?_)); conv => whnf)
      refine ⟨by show (prefW p).size + 9 ≤ _; unfold Go.maxLen; omega, ?_⟩
      ((repeat ((conv => whnf); first | refine brT ?_ | refine brF ?_)); conv => whnf)
      exact fin rfl
    · ((repeat ((conv => whnf); first | refine brT ?_ | refine brF ?_)); conv => whnf)
      refine ⟨by show (prefW p).size + 9 ≤ _; unfold Go.maxLen; omega, ?_⟩
      ((repeat ((conv => whnf); first | refine brT ?_ | refine brF ?_)); conv => whnf)
      refine ⟨by rw [ByteArray.size_append]; show (prefW p).size + 9 + 10 ≤ _; unfold Go.maxLen; omega, ?_⟩
      ((repeat ((conv => whnf); first | refine brT ?_ | refine brF ?_)); conv => whnf)
      exact fin rfl
theorem law_formatCustom (x : Cus) : FSpec env.P 4 [x.lv] (.bool true) := by
  have h1 := toCus_spec x
  have h2 := fmt_spec x
  have h3 := fmt_impl x
  generalize fmtC x = b at h2 h3
  obtain ⟨p, y, r⟩ := x
  refine FSpec_of_code env_ok (fn := Try.f4) Try.func4 rfl Try.call4 _ _ ?_
  ((repeat' (((repeat ((conv => whnf); first | refine brT ?_ | refine brF ?_)); conv => whnf); first | (refine And.intro ?_ ?_ <;> (intro h; rw [h]; revert h; intro _)) | (refine Exists.intro true (And.intro (a := drawB _ _ = true) (by kernel_rfl) ?_)) | (refine Exists.intro _ (And.intro (h1) ?_)) | (refine Exists.intro _ (And.intro (h2) ?_)) | (refine Exists.intro _ (And.intro (h3) ?_)))); all_goals ((repeat ((conv => whnf); first | refine brT ?_ | refine brF ?_)); conv => whnf))
  all_goals (refine fin ?_; simp_all [notB, eqS_refl])
end Go.Proofs.Ytbiagkccgijdlaa


namespace Go.Proofs.Ytbiagkccgijdlaa
open Go.Lg Go.RowKit Go.ChangeShapes Go.WideShapes Go.Deep Go.Joins
set_option linter.unusedVariables false
set_option linter.unusedSimpArgs false
set_option maxRecDepth 100000

section
variable {H : Type} {enc : TypeId × Value → H} {w : World}
end
end Go.Proofs.Ytbiagkccgijdlaa


namespace Go.Proofs.Ytbiagkccgijdlaa
open Go.Lg
set_option maxRecDepth 10000
set_option linter.unusedVariables false
set_option linter.unusedSimpArgs false

/-! ### A family, out of an argument's shape -/
end Go.Proofs.Ytbiagkccgijdlaa

