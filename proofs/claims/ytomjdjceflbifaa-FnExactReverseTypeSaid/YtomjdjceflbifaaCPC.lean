/- Contracts of functions of the program and of its model, told over readings. -/
import Derived.Test.YtomjdjceflbifaaCPB
import Derived.Test.YtomjdjceflbifaaCLgWS
import Derived.Test.YtomjdjceflbifaaCLgRN
namespace Go.Proofs.Ytomjdjceflbifaa
open Go.Lg
set_option maxHeartbeats 1600000
set_option maxRecDepth 10000
set_option linter.unusedVariables false
set_option linter.unusedSimpArgs false

theorem szT_ok {l : Int} {n : Nat} (h0 : 0 ≤ l) (h1 : l ≤ 1048576) (hn : n ≤ Go.maxLen) (h : 0 ≤ szT l n) : szT l n = l - n ∧ (n : Int) ≤ l ∧ ltI (szT l n) 0 = false ∧ 16 * n ≤ 281474976710656 ∧ ltI (szN l n) 0 = false := by
  unfold szT at h ⊢
  cases hh : ltI (szN l n) 0
  · rw [hh] at h
    simp only at h ⊢
    obtain ⟨a1, a2⟩ := szN_ok h0 h1 hn h
    exact ⟨a1, a2, hh, by omega, trivial⟩
  · rw [hh] at h
    simp only at h
    omega
abbrev shStep : Sh := .st [.int .i64, .int .i64]
abbrev shTyp : Sh := .st [.int .i64, .sl (.st [.int .i64, .int .i64])]
theorem step_of_sh {x : LV} (h : hasSh shStep x) : ∃ p : Pr, x = p.lv ∧ True := by
  obtain ⟨ps, h1⟩ := prs_of [x] fun y hy => by simp at hy; subst hy; exact h
  match ps, h1 with
  | [p], h1 => exact ⟨p, by simpa using h1, trivial⟩
  | [], h1 => simp at h1
  | _ :: _ :: _, h1 => simp at h1
theorem typ_of_sh {x : LV} (h : hasSh shTyp x) : ∃ (e : Int) (ss : List Pr), x = typLV e ss ∧ ss.length ≤ Go.maxLen := by
  simp only [hasSh] at h
  obtain ⟨xs, rfl, h⟩ := h
  match xs, h with
  | [a, b], h =>
    simp only [hasShs, hasSh] at h
    obtain ⟨⟨n, rfl⟩, ⟨ys, rfl, hl, hy⟩, _⟩ := h
    obtain ⟨ps, rfl⟩ := prs_of ys fun y hy' => by simp only [hasSh]; exact hy y hy'
    exact ⟨n, ps, rfl, by simpa using hl⟩
  | [], h => simp [hasShs] at h
  | [_], h => simp [hasShs] at h
  | _ :: _ :: _ :: _, h => simp [hasShs] at h

/-- The sex of ego. -/
def egoT (e : Int) (ss : List Pr) : Int := match eqI e 0 with
  | true => (match ss with | [] => e | s :: _ => match eqI s.a 7 with | true => 2 | false => match eqI s.a 8 with | true => 1 | false => e)
  | false => e
theorem l3Ego_spec (e : Int) (ss : List Pr) : FSpec env.P 84 [typLV e ss] (.int .i64 (egoT e ss)) := by
  refine FSpec_of_code env_ok (fn := Try.f84) Try.func84 rfl Try.call84 _ _ ?_
  ((repeat ((conv => whnf); first | refine brT ?_ | refine brF ?_)); conv => whnf)
  (refine ⟨fun h => ?_, fun h => ?_⟩ <;> rw [h])
  · ((repeat ((conv => whnf); first | refine brT ?_ | refine brF ?_)); conv => whnf)
    intro hp
    rw [List.length_map]
    ((repeat ((conv => whnf); first | refine brT ?_ | refine brF ?_)); conv => whnf)
    (refine ⟨fun h1 => ?_, fun h1 => ?_⟩ <;> rw [h1])
    · match ss, h1 with
      | s :: ss, h1 =>
        ((repeat ((conv => whnf); first | refine brT ?_ | refine brF ?_)); conv => whnf)
        refine ⟨0, s.lv, rfl, rfl, rfl, ?_⟩
        ((repeat ((conv => whnf); first | refine brT ?_ | refine brF ?_)); conv => whnf)
        (refine ⟨fun h2 => ?_, fun h2 => ?_⟩ <;> rw [h2])
        · ((repeat ((conv => whnf); first | refine brT ?_ | refine brF ?_)); conv => whnf); exact ⟨rfl, by simp only [egoT, h, h2], List.nodup_nil⟩
        ((repeat ((conv => whnf); first | refine brT ?_ | refine brF ?_)); conv => whnf)
        (refine ⟨fun h3 => ?_, fun h3 => ?_⟩ <;> rw [h3])
        · ((repeat ((conv => whnf); first | refine brT ?_ | refine brF ?_)); conv => whnf); exact ⟨rfl, by simp only [egoT, h, h2, h3], List.nodup_nil⟩
        · ((repeat ((conv => whnf); first | refine brT ?_ | refine brF ?_)); conv => whnf); exact ⟨rfl, by simp only [egoT, h, h2, h3], List.nodup_nil⟩
      | [], h1 => simp [ltI_t] at h1
    · match ss, h1 with
      | [], h1 => ((repeat ((conv => whnf); first | refine brT ?_ | refine brF ?_)); conv => whnf); exact ⟨rfl, by simp only [egoT, h], List.nodup_nil⟩
      | s :: ss, h1 => rw [ltI_f] at h1; simp at h1; omega
  · ((repeat ((conv => whnf); first | refine brT ?_ | refine brF ?_)); conv => whnf); exact ⟨rfl, by simp only [egoT, h], List.nodup_nil⟩
def egoR (e : Int) (ss : List Pr) : Int := match typB e ss with | true => egoT e ss | false => 0
theorem egoOfType_impl (e : Int) (ss : List Pr) : FSpec env.P 88 [typLV e ss] (.int .i64 (egoR e ss)) := by
  refine FSpec_of_code env_ok (fn := Try.f88) Try.func88 rfl Try.call88 _ _ ?_
  ((repeat ((conv => whnf); first | refine brT ?_ | refine brF ?_)); conv => whnf)
  refine ⟨_, isType_impl e ss, ?_⟩
  ((repeat ((conv => whnf); first | refine brT ?_ | refine brF ?_)); conv => whnf)
  (refine ⟨fun h => ?_, fun h => ?_⟩ <;> rw [h])
  · rw [notB_t] at h; ((repeat ((conv => whnf); first | refine brT ?_ | refine brF ?_)); conv => whnf); exact ⟨rfl, by simp only [egoR, h], List.nodup_nil⟩
  rw [notB_f] at h
  ((repeat ((conv => whnf); first | refine brT ?_ | refine brF ?_)); conv => whnf)
  (refine ⟨fun h0 => ?_, fun h0 => ?_⟩ <;> rw [h0])
  · rw [notB_t] at h0; ((repeat ((conv => whnf); first | refine brT ?_ | refine brF ?_)); conv => whnf); exact ⟨rfl, by simp only [egoR, h, egoT, h0], List.nodup_nil⟩
  rw [notB_f] at h0
  ((repeat ((conv => whnf); first | refine brT ?_ | refine brF ?_)); conv => whnf)
  intro hp
  rw [List.length_map]
  ((repeat ((conv => whnf); first | refine brT ?_ | refine brF ?_)); conv => whnf)
  (refine ⟨fun h1 => ?_, fun h1 => ?_⟩ <;> rw [h1])
  · match ss, h1 with
    | [], h1 => ((repeat ((conv => whnf); first | refine brT ?_ | refine brF ?_)); conv => whnf); exact ⟨rfl, by simp only [egoR, h, egoT, h0], List.nodup_nil⟩
    | s :: ss, h1 => rw [eqI_t] at h1; simp at h1; omega
  · match ss, h1 with
    | s :: ss, h1 =>
      ((repeat ((conv => whnf); first | refine brT ?_ | refine brF ?_)); conv => whnf)
      refine ⟨0, s.lv, rfl, rfl, rfl, ?_⟩
      ((repeat ((conv => whnf); first | refine brT ?_ | refine brF ?_)); conv => whnf)
      (refine ⟨fun h2 => ?_, fun h2 => ?_⟩ <;> rw [h2])
      · ((repeat ((conv => whnf); first | refine brT ?_ | refine brF ?_)); conv => whnf); exact ⟨rfl, by simp only [egoR, h, egoT, h0, h2], List.nodup_nil⟩
      ((repeat ((conv => whnf); first | refine brT ?_ | refine brF ?_)); conv => whnf)
      (refine ⟨fun h3 => ?_, fun h3 => ?_⟩ <;> rw [h3])
      · ((repeat ((conv => whnf); first | refine brT ?_ | refine brF ?_)); conv => whnf); exact ⟨rfl, by simp only [egoR, h, egoT, h0, h2, h3], List.nodup_nil⟩
      · ((repeat ((conv => whnf); first | refine brT ?_ | refine brF ?_)); conv => whnf); exact ⟨rfl, by simp only [egoR, h, egoT, h0, h2, h3]; rw [eqI_t] at h0; rw [h0], List.nodup_nil⟩
    | [], h1 => simp [eqI_f] at h1
/-- The sex of whom a type leads to. -/
def lastT (e : Int) (ss : List Pr) : Int := match ss.getLast? with | some s => sxOf s.a | none => e
theorem lastT_at {e : Int} {ss : List Pr} (h : 0 < ss.length) : lastT e ss = sxOf (ss[ss.length - 1]'(by omega)).a := by
  unfold lastT
  rw [List.getLast?_eq_getElem?, List.getElem?_eq_getElem (by omega)]
theorem l3Last_spec (e : Int) (ss : List Pr) : FSpec env.P 85 [typLV e ss] (.int .i64 (lastT e ss)) := by
  refine FSpec_of_code env_ok (fn := Try.f85) Try.func85 rfl Try.call85 _ _ ?_
  ((repeat ((conv => whnf); first | refine brT ?_ | refine brF ?_)); conv => whnf)
  intro hp
  have hp' : ss.length ≤ Go.maxLen := by simpa using hp
  rw [List.length_map]
  ((repeat ((conv => whnf); first | refine brT ?_ | refine brF ?_)); conv => whnf)
  (refine ⟨fun h1 => ?_, fun h1 => ?_⟩ <;> rw [h1])
  · have : ss = [] := List.eq_nil_of_length_eq_zero (by rw [eqI_t] at h1; omega)
    subst this
    ((repeat ((conv => whnf); first | refine brT ?_ | refine brF ?_)); conv => whnf)
    exact ⟨rfl, rfl, List.nodup_nil⟩
  have hpos : 0 < ss.length := by rw [eqI_f] at h1; omega
  ((repeat ((conv => whnf); first | refine brT ?_ | refine brF ?_)); conv => whnf)
  intro _
  rw [List.length_map]
  ((repeat ((conv => whnf); first | refine brT ?_ | refine brF ?_)); conv => whnf)
  have e1 : IntKind.i64.wrap ((ss.length : Int) - 1) = ((ss.length - 1 : Nat) : Int) := by unfold Go.maxLen at hp'; rw [wrap64 (by omega) (by omega)]; omega
  refine ⟨ss.length - 1, (ss[ss.length - 1]'(by omega)).lv, e1, by rw [List.getElem?_map, List.getElem?_eq_getElem (by omega)]; rfl, rfl, ?_⟩
  ((repeat ((conv => whnf); first | refine brT ?_ | refine brF ?_)); conv => whnf)
  refine ⟨_, l3Sex_spec _, ?_⟩
  ((repeat ((conv => whnf); first | refine brT ?_ | refine brF ?_)); conv => whnf)
  exact ⟨rfl, by rw [lastT_at hpos], List.nodup_nil⟩
def sexR (e : Int) (ss : List Pr) : Int := match typB e ss with | true => lastT e ss | false => 0
theorem sexOfType_impl (e : Int) (ss : List Pr) : FSpec env.P 89 [typLV e ss] (.int .i64 (sexR e ss)) := by
  refine FSpec_of_code env_ok (fn := Try.f89) Try.func89 rfl Try.call89 _ _ ?_
  ((repeat ((conv => whnf); first | refine brT ?_ | refine brF ?_)); conv => whnf)
  refine ⟨_, isType_impl e ss, ?_⟩
  ((repeat ((conv => whnf); first | refine brT ?_ | refine brF ?_)); conv => whnf)
  (refine ⟨fun h => ?_, fun h => ?_⟩ <;> rw [h])
  · rw [notB_t] at h; ((repeat ((conv => whnf); first | refine brT ?_ | refine brF ?_)); conv => whnf); exact ⟨rfl, by simp only [sexR, h], List.nodup_nil⟩
  rw [notB_f] at h
  ((repeat ((conv => whnf); first | refine brT ?_ | refine brF ?_)); conv => whnf)
  intro hp
  have hp' : ss.length ≤ Go.maxLen := by simpa using hp
  rw [List.length_map]
  ((repeat ((conv => whnf); first | refine brT ?_ | refine brF ?_)); conv => whnf)
  (refine ⟨fun h1 => ?_, fun h1 => ?_⟩ <;> rw [h1])
  · have : ss = [] := List.eq_nil_of_length_eq_zero (by rw [eqI_t] at h1; omega)
    subst this
    ((repeat ((conv => whnf); first | refine brT ?_ | refine brF ?_)); conv => whnf)
    exact ⟨rfl, by simp only [sexR, h]; rfl, List.nodup_nil⟩
  have hpos : 0 < ss.length := by rw [eqI_f] at h1; omega
  ((repeat ((conv => whnf); first | refine brT ?_ | refine brF ?_)); conv => whnf)
  intro _
  rw [List.length_map]
  ((repeat ((conv => whnf); first | refine brT ?_ | refine brF ?_)); conv => whnf)
  have e1 : IntKind.i64.wrap ((ss.length : Int) - 1) = ((ss.length - 1 : Nat) : Int) := by unfold Go.maxLen at hp'; rw [wrap64 (by omega) (by omega)]; omega
  refine ⟨ss.length - 1, (ss[ss.length - 1]'(by omega)).lv, e1, by rw [List.getElem?_map, List.getElem?_eq_getElem (by omega)]; rfl, rfl, ?_⟩
  ((repeat ((conv => whnf); first | refine brT ?_ | refine brF ?_)); conv => whnf)
  refine ⟨_, sexOfStep_spec _, ?_⟩
  ((repeat ((conv => whnf); first | refine brT ?_ | refine brF ?_)); conv => whnf)
  exact ⟨rfl, by simp only [sexR, h]; rw [lastT_at hpos], List.nodup_nil⟩

theorem stEq (p q : Pr) : eqAll [LV.int .i64 p.a, LV.int .i64 p.b] [LV.int .i64 q.a, LV.int .i64 q.b] = p.eq q := by
  show (eqI p.a q.a && (eqI p.b q.b && true)) = _
  simp [Pr.eq]
theorem slicesEqual_spec (ps qs : List Pr) : FSpec env.P 165 [.sl (ps.map Pr.lv), .sl (qs.map Pr.lv)] (.bool (eqList Pr.eq ps qs)) := by
  refine FSpec_of_code env_ok (fn := Try.f165) Try.func165 rfl Try.call165 _ _ ?_
  ((repeat ((conv => whnf); first | refine brT ?_ | refine brF ?_)); conv => whnf)
  intro hp
  ((repeat ((conv => whnf); first | refine brT ?_ | refine brF ?_)); conv => whnf)
  intro hq
  ((repeat ((conv => whnf); first | refine brT ?_ | refine brF ?_)); conv => whnf)
  (refine ⟨fun h => ?_, fun h => ?_⟩ <;> rw [h])
  · ((repeat ((conv => whnf); first | refine brT ?_ | refine brF ?_)); conv => whnf)
    refine fin ?_
    rw [notB_t] at h
    rw [eqList_len (eqI_nolen h)]
  rw [notB_f] at h
  have hl := eqI_len h
  have hp' : ps.length ≤ Go.maxLen := by simpa using hp
  ((repeat ((conv => whnf); first | refine brT ?_ | refine brF ?_)); conv => whnf)
  intro _
  ((repeat ((conv => whnf); first | refine brT ?_ | refine brF ?_)); conv => whnf)
  refine loop_rule (α := Nat) (fun k => [(13, .int .i64 (k : Int))]) (fun _ => []) (fun k => ps.length - k) (fun k => k ≤ ps.length ∧ eqTo Pr.eq ps qs k) 0 ⟨Nat.zero_le _, fun _ _ _ h => absurd h (Nat.not_lt_zero _)⟩ ?_ ?_
  · refine ⟨?_, trivial, rfl, rfl⟩
    ((repeat ((conv => whnf); refine ⟨rfl, ?_⟩)); trivial)
  rintro k ⟨hk, he⟩
  ((repeat ((conv => whnf); first | refine brT ?_ | refine brF ?_)); conv => whnf)
  (refine ⟨fun h1 => ?_, fun h1 => ?_⟩ <;> rw [h1])
  · have hlt : k < ps.length := by rw [ltI_t] at h1; simp at h1; omega
    have hlt2 : k < qs.length := by omega
    ((repeat ((conv => whnf); first | refine brT ?_ | refine brF ?_)); conv => whnf)
    refine ⟨true, by kernel_rfl, ?_⟩
    ((repeat ((conv => whnf); first | refine brT ?_ | refine brF ?_)); conv => whnf)
    refine ⟨k, ps[k].lv, rfl, by simp [hlt], rfl, ?_⟩
    ((repeat ((conv => whnf); first | refine brT ?_ | refine brF ?_)); conv => whnf)
    refine ⟨k, qs[k].lv, rfl, by simp [hlt2], rfl, ?_⟩
    ((repeat ((conv => whnf); first | refine brT ?_ | refine brF ?_)); conv => whnf)
    rw [stEq]
    (refine ⟨fun h3 => ?_, fun h3 => ?_⟩ <;> rw [h3])
    · rw [notB_t] at h3
      ((repeat ((conv => whnf); first | refine brT ?_ | refine brF ?_)); conv => whnf)
      refine fin ?_
      rw [eqList_no (k := k) (x := ps[k]) (y := qs[k]) (by simp [hlt]) (by simp [hlt2]) h3]
    · rw [notB_f] at h3
      ((repeat ((conv => whnf); first | refine brT ?_ | refine brF ?_)); conv => whnf)
      refine round_end (k + 1) ⟨hlt, he.succ (x := ps[k]) (y := qs[k]) (by simp [hlt]) (by simp [hlt2]) h3⟩ (by omega) ⟨?_, trivial, rfl, rfl⟩
      have e := step_i hlt hp'
      ((repeat ((conv => whnf); first | refine ⟨e, ?_⟩ | refine ⟨rfl, ?_⟩)); trivial)
  · have h3 : ps.length ≤ k := by rw [ltI_f] at h1; simp at h1; omega
    have h4 : k = ps.length := by omega
    subst h4
    ((repeat ((conv => whnf); first | refine brT ?_ | refine brF ?_)); conv => whnf)
    refine fin ?_
    rw [eqTo.all hl he]
theorem l3Steps_spec (ps qs : List Pr) : FSpec env.P 155 [.sl (ps.map Pr.lv), .sl (qs.map Pr.lv)] (.bool (eqList Pr.eq ps qs)) := by
  refine FSpec_of_code env_ok (fn := Try.f155) Try.func155 rfl Try.call155 _ _ ?_
  ((repeat ((conv => whnf); first | refine brT ?_ | refine brF ?_)); conv => whnf)
  intro hp
  ((repeat ((conv => whnf); first | refine brT ?_ | refine brF ?_)); conv => whnf)
  intro hq
  ((repeat ((conv => whnf); first | refine brT ?_ | refine brF ?_)); conv => whnf)
  (refine ⟨fun h => ?_, fun h => ?_⟩ <;> rw [h])
  · ((repeat ((conv => whnf); first | refine brT ?_ | refine brF ?_)); conv => whnf)
    refine fin ?_
    rw [notB_t] at h
    rw [eqList_len (eqI_nolen h)]
  rw [notB_f] at h
  have hl := eqI_len h
  have hp' : ps.length ≤ Go.maxLen := by simpa using hp
  ((repeat ((conv => whnf); first | refine brT ?_ | refine brF ?_)); conv => whnf)
  intro _
  ((repeat ((conv => whnf); first | refine brT ?_ | refine brF ?_)); conv => whnf)
  refine loop_rule (α := Nat) (fun k => [(13, .int .i64 (k : Int))]) (fun _ => []) (fun k => ps.length - k) (fun k => k ≤ ps.length ∧ eqTo Pr.eq ps qs k) 0 ⟨Nat.zero_le _, fun _ _ _ h => absurd h (Nat.not_lt_zero _)⟩ ?_ ?_
  · refine ⟨?_, trivial, rfl, rfl⟩
    ((repeat ((conv => whnf); refine ⟨rfl, ?_⟩)); trivial)
  rintro k ⟨hk, he⟩
  ((repeat ((conv => whnf); first | refine brT ?_ | refine brF ?_)); conv => whnf)
  (refine ⟨fun h1 => ?_, fun h1 => ?_⟩ <;> rw [h1])
  · have hlt : k < ps.length := by rw [ltI_t] at h1; simp at h1; omega
    have hlt2 : k < qs.length := by omega
    ((repeat ((conv => whnf); first | refine brT ?_ | refine brF ?_)); conv => whnf)
    refine ⟨true, by kernel_rfl, ?_⟩
    ((repeat ((conv => whnf); first | refine brT ?_ | refine brF ?_)); conv => whnf)
    refine ⟨k, ps[k].lv, rfl, by simp [hlt], rfl, ?_⟩
    ((repeat ((conv => whnf); first | refine brT ?_ | refine brF ?_)); conv => whnf)
    refine ⟨k, qs[k].lv, rfl, by simp [hlt2], rfl, ?_⟩
    ((repeat ((conv => whnf); first | refine brT ?_ | refine brF ?_)); conv => whnf)
    rw [stEq]
    (refine ⟨fun h3 => ?_, fun h3 => ?_⟩ <;> rw [h3])
    · rw [notB_t] at h3
      ((repeat ((conv => whnf); first | refine brT ?_ | refine brF ?_)); conv => whnf)
      refine fin ?_
      rw [eqList_no (k := k) (x := ps[k]) (y := qs[k]) (by simp [hlt]) (by simp [hlt2]) h3]
    · rw [notB_f] at h3
      ((repeat ((conv => whnf); first | refine brT ?_ | refine brF ?_)); conv => whnf)
      refine round_end (k + 1) ⟨hlt, he.succ (x := ps[k]) (y := qs[k]) (by simp [hlt]) (by simp [hlt2]) h3⟩ (by omega) ⟨?_, trivial, rfl, rfl⟩
      have e := step_i hlt hp'
      ((repeat ((conv => whnf); first | refine ⟨e, ?_⟩ | refine ⟨rfl, ?_⟩)); trivial)
  · have h3 : ps.length ≤ k := by rw [ltI_f] at h1; simp at h1; omega
    have h4 : k = ps.length := by omega
    subst h4
    ((repeat ((conv => whnf); first | refine brT ?_ | refine brF ?_)); conv => whnf)
    refine fin ?_
    rw [eqTo.all hl he]
theorem equalTypes_spec (e : Int) (ss : List Pr) (f : Int) (ts : List Pr) : FSpec env.P 116 [typLV e ss, typLV f ts] (.bool (eqTyp e ss f ts)) := by
  refine FSpec_of_code env_ok (fn := Try.f116) Try.func116 rfl Try.call116 _ _ ?_
  ((repeat' (((repeat ((conv => whnf); first | refine brT ?_ | refine brF ?_)); conv => whnf); first | (refine And.intro ?_ ?_ <;> (intro h; rw [h]; revert h; intro _)) | (refine Exists.intro true (And.intro (a := drawB _ _ = true) (by kernel_rfl) ?_)) | (refine Exists.intro _ (And.intro (l3Steps_spec ss ts) ?_)))); all_goals ((repeat ((conv => whnf); first | refine brT ?_ | refine brF ?_)); conv => whnf))
  all_goals (refine fin ?_; simp_all [eqTyp, notB])
theorem equalTypes_impl (e : Int) (ss : List Pr) (f : Int) (ts : List Pr) : FSpec env.P 138 [typLV e ss, typLV f ts] (.bool (eqTyp e ss f ts)) := by
  refine FSpec_of_code env_ok (fn := Try.f138) Try.func138 rfl Try.call138 _ _ ?_
  ((repeat' (((repeat ((conv => whnf); first | refine brT ?_ | refine brF ?_)); conv => whnf); first | (refine And.intro ?_ ?_ <;> (intro h; rw [h]; revert h; intro _)) | (refine Exists.intro true (And.intro (a := drawB _ _ = true) (by kernel_rfl) ?_)) | (refine Exists.intro _ (And.intro (slicesEqual_spec ss ts) ?_)))); all_goals ((repeat ((conv => whnf); first | refine brT ?_ | refine brF ?_)); conv => whnf))
  all_goals (refine fin ?_; simp_all [eqTyp, notB])
end Go.Proofs.Ytomjdjceflbifaa

namespace Go.Proofs.Ytomjdjceflbifaa
open Go.Lg
set_option maxHeartbeats 1600000
set_option maxRecDepth 10000
set_option linter.unusedVariables false
set_option linter.unusedSimpArgs false

theorem finI {p : Prop} (h : p) : IntKind.i64 = IntKind.i64 ∧ p ∧ (fun ids : List Nat => ids.Nodup) [] := ⟨rfl, h, List.nodup_nil⟩

/-! A rule: its name, its sex and place, the steps that it replaces and by which. -/
structure Rul where
  name : ByteArray
  sex : Int
  place : Int
  fr : List Pr
  to : List Pr
def Rul.lv (r : Rul) : LV := .st [.str r.name, .int .i64 r.sex, .int .i64 r.place, .sl (r.fr.map Pr.lv), .sl (r.to.map Pr.lv)]
def Rul.own (r : Rul) (e : Nat) : LV := .st [.str r.name, .int .i64 r.sex, .int .i64 r.place, .own e 2 (r.fr.map Pr.lv), .own e 2 (r.to.map Pr.lv)]
/-- Its parts are of a length that memory allows. -/
def Rul.OK (r : Rul) : Prop := r.name.size ≤ Go.maxLen ∧ r.fr.length ≤ Go.maxLen ∧ r.to.length ≤ Go.maxLen
def szR (l : Int) (r : Rul) : Int := match ltI (IntKind.i64.wrap (l - (r.name.size : Int))) 0 with
  | true => -1
  | false => match ltI (szN (IntKind.i64.wrap (l - (r.name.size : Int))) r.fr.length) 0 with
    | true => -1
    | false => szT (szN (IntKind.i64.wrap (l - (r.name.size : Int))) r.fr.length) r.to.length
theorem szRule_spec (r : Rul) (l : Int) : FSpec env.P 42 [r.lv, .int .i64 l] (.int .i64 (szR l r)) := by
  refine FSpec_of_code env_ok (fn := Try.f42) Try.func42 rfl Try.call42 _ _ ?_
  ((repeat ((conv => whnf); first | refine brT ?_ | refine brF ?_)); conv => whnf)
  intro hm
  ((repeat ((conv => whnf); first | refine brT ?_ | refine brF ?_)); conv => whnf)
  (refine ⟨fun h => ?_, fun h => ?_⟩ <;> rw [h])
  · ((repeat ((conv => whnf); first | refine brT ?_ | refine brF ?_)); conv => whnf); exact finI (by unfold szR; rw [h])
  ((repeat ((conv => whnf); first | refine brT ?_ | refine brF ?_)); conv => whnf)
  refine ⟨_, szStepS_spec r.fr _, ?_⟩
  ((repeat ((conv => whnf); first | refine brT ?_ | refine brF ?_)); conv => whnf)
  (refine ⟨fun h1 => ?_, fun h1 => ?_⟩ <;> rw [h1])
  · ((repeat ((conv => whnf); first | refine brT ?_ | refine brF ?_)); conv => whnf); exact finI (by unfold szR; simp only [h, h1])
  ((repeat ((conv => whnf); first | refine brT ?_ | refine brF ?_)); conv => whnf)
  refine ⟨_, szStepS_spec r.to _, ?_⟩
  ((repeat ((conv => whnf); first | refine brT ?_ | refine brF ?_)); conv => whnf)
  (refine ⟨fun h2 => ?_, fun h2 => ?_⟩ <;> rw [h2])
  · ((repeat ((conv => whnf); first | refine brT ?_ | refine brF ?_)); conv => whnf); exact finI (by unfold szR szT; simp only [h, h1, h2])
  · ((repeat ((conv => whnf); first | refine brT ?_ | refine brF ?_)); conv => whnf); exact finI (by unfold szR szT; simp only [h, h1, h2])
theorem szR_ok {l : Int} {r : Rul} (hr : r.OK) (h0 : 0 ≤ l) (h1 : l ≤ 1048576) (h : 0 ≤ szR l r) :
    szR l r = l - r.name.size - r.fr.length - r.to.length ∧ ltI (szR l r) 0 = false ∧ 16 * r.fr.length ≤ 281474976710656 ∧ 16 * r.to.length ≤ 281474976710656 ∧ r.fr.length ≤ 1048576 ∧ r.to.length ≤ 1048576 ∧ (r.name.size : Int) ≤ l := by
  obtain ⟨hn, hf, ht⟩ := hr
  unfold Go.maxLen at hn hf ht
  have hw : IntKind.i64.wrap (l - (r.name.size : Int)) = l - r.name.size := wrap64 (by omega) (by omega)
  unfold szR at h ⊢
  rw [hw] at h ⊢
  split at h
  · omega
  rename_i e1
  rw [ltI_f] at e1
  split at h
  · omega
  rename_i e2
  rw [ltI_f] at e2
  have hw2 : szN (l - r.name.size) r.fr.length = l - r.name.size - r.fr.length := by
    unfold szN at e2 ⊢
    have hw3 : IntKind.i64.wrap (l - (r.name.size : Int) - (r.fr.length : Int)) = l - r.name.size - r.fr.length := wrap64 (by omega) (by omega)
    rw [hw3] at e2 ⊢
    cases hh : ltI (l - (r.name.size : Int) - (r.fr.length : Int)) 0 <;> rw [hh] at e2
    simp only at e2
    omega
  try simp only [show ltI (l - (r.name.size : Int)) 0 = false by rw [ltI_f]; omega]
  rw [hw2] at h e2 ⊢
  try simp only [show ltI (l - (r.name.size : Int) - (r.fr.length : Int)) 0 = false by rw [ltI_f]; omega]
  obtain ⟨k1, k2, k3, k4, -⟩ := szT_ok (l := l - r.name.size - r.fr.length) (n := r.to.length) (by omega) (by omega) (by unfold Go.maxLen; omega) h
  exact ⟨by omega, k3, by omega, k4, by omega, by omega, by omega⟩

theorem toRule_f (r : Rul) (h1 : 16 * r.fr.length ≤ 281474976710656) (h2 : 16 * r.to.length ≤ 281474976710656) : FSpec env.P 44 [r.lv] r.lv := by
  refine FSpec_of_code env_ok (fn := Try.f44) Try.func44 rfl Try.call44 _ _ ?_
  ((repeat ((conv => whnf); first | refine brT ?_ | refine brF ?_)); conv => whnf)
  refine ⟨_, toStepS_f r.fr h1, ?_⟩
  ((repeat ((conv => whnf); first | refine brT ?_ | refine brF ?_)); conv => whnf)
  refine ⟨_, toStepS_f r.to h2, ?_⟩
  ((repeat ((conv => whnf); first | refine brT ?_ | refine brF ?_)); conv => whnf)
  exact ⟨_, rfl, rfl, rfl, rfl, rfl, rfl, rfl, rfl, by simp [exsW, exW]⟩

def Rul.eq (r s : Rul) : Bool := eqS r.name s.name && (eqI r.sex s.sex && (eqI r.place s.place && (eqList Pr.eq r.fr s.fr && eqList Pr.eq r.to s.to)))
theorem eqRule_spec (r s : Rul) : FSpec env.P 46 [r.lv, s.lv] (.bool (r.eq s)) := by
  refine FSpec_of_code env_ok (fn := Try.f46) Try.func46 rfl Try.call46 _ _ ?_
  ((repeat' (((repeat ((conv => whnf); first | refine brT ?_ | refine brF ?_)); conv => whnf); first | (refine And.intro ?_ ?_ <;> (intro h; rw [h]; revert h; intro _)) | (refine Exists.intro true (And.intro (a := drawB _ _ = true) (by kernel_rfl) ?_)) | (refine Exists.intro _ (And.intro (eqStepS_spec r.fr s.fr) ?_)) | (refine Exists.intro _ (And.intro (eqStepS_spec r.to s.to) ?_)))); all_goals ((repeat ((conv => whnf); first | refine brT ?_ | refine brF ?_)); conv => whnf))
  all_goals (refine fin ?_; simp_all [Rul.eq, notB])
theorem Rul.eq_refl (r : Rul) : r.eq r = true := by simp [Rul.eq, eqS_refl, eqI_refl, eqPairS_refl]

/-! Comparisons of steps. -/
def cmpI (a b : Int) : Int := match ltI a b with | true => -1 | false => match ltI b a with | true => 1 | false => 0
theorem isNaN_spec (a : Int) : FSpec env.P 182 [.int .i64 a] (.bool false) := by
  refine FSpec_of_code env_ok (fn := Try.f182) Try.func182 rfl Try.call182 _ _ ?_
  ((repeat ((conv => whnf); first | refine brT ?_ | refine brF ?_)); conv => whnf)
  exact fin (by rw [eqI_refl]; simp [notB])
theorem compare_spec (a b : Int) : FSpec env.P 172 [.int .i64 a, .int .i64 b] (.int .i64 (cmpI a b)) := by
  refine FSpec_of_code env_ok (fn := Try.f172) Try.func172 rfl Try.call172 _ _ ?_
  ((repeat' (((repeat ((conv => whnf); first | refine brT ?_ | refine brF ?_)); conv => whnf); first | (refine And.intro ?_ ?_ <;> (intro h; rw [h]; revert h; intro _)) | (refine Exists.intro true (And.intro (a := drawB _ _ = true) (by kernel_rfl) ?_)) | (refine Exists.intro _ (And.intro (isNaN_spec a) ?_)) | (refine Exists.intro _ (And.intro (isNaN_spec b) ?_)))); all_goals ((repeat ((conv => whnf); first | refine brT ?_ | refine brF ?_)); conv => whnf))
  all_goals (refine finI ?_; simp_all [cmpI])
def orL : List Int → Int
  | [] => 0
  | x :: xs => match eqI x 0 with | true => orL xs | false => x
theorem orL_drop {xs : List Int} : ∀ {k : Nat}, (∀ j x, j < k → xs[j]? = some x → eqI x 0 = true) → orL (xs.drop k) = orL xs := by
  induction xs with
  | nil => intro k _; simp
  | cons x xs ih =>
    intro k h
    cases k with
    | zero => rfl
    | succ k =>
      have h0 := h 0 x (by omega) rfl
      simp only [List.drop_succ_cons, orL, h0]
      exact ih fun j y hj hy => h (j + 1) y (by omega) (by simpa using hy)
theorem cmpOr_spec (xs : List Int) : FSpec env.P 171 [.sl (xs.map fun x => .int .i64 x)] (.int .i64 (orL xs)) := by
  refine FSpec_of_code env_ok (fn := Try.f171) Try.func171 rfl Try.call171 _ _ ?_
  ((repeat ((conv => whnf); first | refine brT ?_ | refine brF ?_)); conv => whnf)
  intro hm
  rw [List.length_map] at hm ⊢
  ((repeat ((conv => whnf); first | refine brT ?_ | refine brF ?_)); conv => whnf)
  refine loop_rule (α := Nat) (fun k => [(8, .int .i64 (k : Int))]) (fun _ => []) (fun k => xs.length - k) (fun k => k ≤ xs.length ∧ ∀ j x, j < k → xs[j]? = some x → eqI x 0 = true) 0 ⟨Nat.zero_le _, fun _ _ h => absurd h (Nat.not_lt_zero _)⟩ ?_ ?_
  · refine ⟨?_, trivial, rfl, rfl⟩
    ((repeat ((conv => whnf); refine ⟨rfl, ?_⟩)); trivial)
  rintro k ⟨hk, hz⟩
  ((repeat ((conv => whnf); first | refine brT ?_ | refine brF ?_)); conv => whnf)
  (refine ⟨fun h1 => ?_, fun h1 => ?_⟩ <;> rw [h1])
  · have hlt : k < xs.length := by rw [ltI_t] at h1; omega
    ((repeat ((conv => whnf); first | refine brT ?_ | refine brF ?_)); conv => whnf)
    refine ⟨k, .int .i64 xs[k], rfl, by simp [hlt], rfl, ?_⟩
    ((repeat ((conv => whnf); first | refine brT ?_ | refine brF ?_)); conv => whnf)
    (refine ⟨fun h2 => ?_, fun h2 => ?_⟩ <;> rw [h2])
    · ((repeat ((conv => whnf); first | refine brT ?_ | refine brF ?_)); conv => whnf)
      refine finI ?_
      rw [notB_t] at h2
      rw [← orL_drop (k := k) hz, List.drop_eq_getElem_cons hlt]
      simp only [orL, h2]
    · rw [notB_f] at h2
      ((repeat ((conv => whnf); first | refine brT ?_ | refine brF ?_)); conv => whnf)
      refine round_end (k + 1) ⟨hlt, fun j x hj hx => ?_⟩ (by omega) ⟨?_, trivial, rfl, rfl⟩
      · by_cases e : j = k
        · subst e; rw [List.getElem?_eq_getElem hlt] at hx; cases hx; exact h2
        · exact hz j x (by omega) hx
      have e := step_i hlt hm
      ((repeat ((conv => whnf); first | refine ⟨e, ?_⟩ | refine ⟨rfl, ?_⟩)); trivial)
  · have h4 : k = xs.length := by rw [ltI_f] at h1; omega
    subst h4
    ((repeat ((conv => whnf); first | refine brT ?_ | refine brF ?_)); conv => whnf)
    refine finI ?_
    rw [← orL_drop (k := xs.length) hz]
    simp [orL]
def cmpS (p q : Pr) : Int := orL [cmpI p.a q.a, cmpI p.b q.b]
theorem compareSteps_spec (p q : Pr) : FSpec env.P 174 [p.lv, q.lv] (.int .i64 (cmpS p q)) := by
  refine FSpec_of_code env_ok (fn := Try.f174) Try.func174 rfl Try.call174 _ _ ?_
  ((repeat ((conv => whnf); first | refine brT ?_ | refine brF ?_)); conv => whnf)
  refine ⟨true, by kernel_rfl, ?_⟩
  ((repeat ((conv => whnf); first | refine brT ?_ | refine brF ?_)); conv => whnf)
  refine ⟨_, compare_spec p.a q.a, ?_⟩
  ((repeat ((conv => whnf); first | refine brT ?_ | refine brF ?_)); conv => whnf)
  refine ⟨_, compare_spec p.b q.b, ?_⟩
  ((repeat ((conv => whnf); first | refine brT ?_ | refine brF ?_)); conv => whnf)
  refine ⟨rfl, _, cmpOr_spec [cmpI p.a q.a, cmpI p.b q.b], ?_⟩
  ((repeat ((conv => whnf); first | refine brT ?_ | refine brF ?_)); conv => whnf)
  exact finI rfl
def cmpFL : List Pr → List Pr → Int
  | [], [] => 0
  | [], _ :: _ => -1
  | _ :: _, [] => 1
  | p :: ps, q :: qs => match eqI (cmpS p q) 0 with | true => cmpFL ps qs | false => cmpS p q
def befL : List Pr → List Pr → Bool
  | p :: ps, q :: qs => match eqI p.a q.a with
    | true => (match eqI p.b q.b with | true => befL ps qs | false => ltI p.b q.b)
    | false => ltI p.a q.a
  | _, _ => false
theorem cmpFL_drop {ps qs : List Pr} : ∀ {k : Nat}, (∀ j p q, j < k → ps[j]? = some p → qs[j]? = some q → eqI (cmpS p q) 0 = true) → k ≤ ps.length → k ≤ qs.length → cmpFL (ps.drop k) (qs.drop k) = cmpFL ps qs := by
  induction ps generalizing qs with
  | nil => intro k _ h1 h2; have : k = 0 := by simpa using h1
           subst this; rfl
  | cons p ps ih =>
    intro k h h1 h2
    cases k with
    | zero => rfl
    | succ k =>
      cases qs with
      | nil => simp at h2
      | cons q qs =>
        have h0 := h 0 p q (by omega) rfl rfl
        simp only [List.drop_succ_cons, cmpFL, h0]
        exact ih (fun j x y hj hx hy => h (j + 1) x y (by omega) (by simpa using hx) (by simpa using hy)) (by simpa using h1) (by simpa using h2)
theorem compareFunc_spec (ps qs : List Pr) : FSpec env.P 173 [.sl (ps.map Pr.lv), .sl (qs.map Pr.lv), .clos 174 []] (.int .i64 (cmpFL ps qs)) := by
  refine FSpec_of_code env_ok (fn := Try.f173) Try.func173 rfl Try.call173 _ _ ?_
  ((repeat ((conv => whnf); first | refine brT ?_ | refine brF ?_)); conv => whnf)
  intro hm
  rw [List.length_map] at hm ⊢
  ((repeat ((conv => whnf); first | refine brT ?_ | refine brF ?_)); conv => whnf)
  refine loop_rule (α := Nat) (fun k => [(13, .int .i64 (k : Int))]) (fun _ => []) (fun k => ps.length - k) (fun k => k ≤ ps.length ∧ k ≤ qs.length ∧ ∀ j p q, j < k → ps[j]? = some p → qs[j]? = some q → eqI (cmpS p q) 0 = true) 0 ⟨Nat.zero_le _, Nat.zero_le _, fun _ _ _ h => absurd h (Nat.not_lt_zero _)⟩ ?_ ?_
  · refine ⟨?_, trivial, rfl, rfl⟩
    ((repeat ((conv => whnf); refine ⟨rfl, ?_⟩)); trivial)
  rintro k ⟨hk, hk2, hz⟩
  ((repeat ((conv => whnf); first | refine brT ?_ | refine brF ?_)); conv => whnf)
  (refine ⟨fun h1 => ?_, fun h1 => ?_⟩ <;> rw [h1])
  · have hlt : k < ps.length := by rw [ltI_t] at h1; omega
    ((repeat ((conv => whnf); first | refine brT ?_ | refine brF ?_)); conv => whnf)
    refine ⟨k, ps[k].lv, rfl, by simp [hlt], rfl, ?_⟩
    ((repeat ((conv => whnf); first | refine brT ?_ | refine brF ?_)); conv => whnf)
    intro hm2
    rw [List.length_map] at hm2 ⊢
    ((repeat ((conv => whnf); first | refine brT ?_ | refine brF ?_)); conv => whnf)
    (refine ⟨fun h2 => ?_, fun h2 => ?_⟩ <;> rw [h2])
    · rw [leI_t] at h2
      ((repeat ((conv => whnf); first | refine brT ?_ | refine brF ?_)); conv => whnf)
      refine finI ?_
      rw [← cmpFL_drop hz hk hk2, List.drop_eq_getElem_cons hlt, show qs.drop k = [] from List.drop_eq_nil_of_le (by omega)]
      simp only [cmpFL]
    · rw [leI_f] at h2
      have hlt2 : k < qs.length := by omega
      ((repeat ((conv => whnf); first | refine brT ?_ | refine brF ?_)); conv => whnf)
      refine ⟨k, qs[k].lv, rfl, by simp [hlt2], rfl, ?_⟩
      ((repeat ((conv => whnf); first | refine brT ?_ | refine brF ?_)); conv => whnf)
      refine ⟨_, compareSteps_spec ps[k] qs[k], ?_⟩
      ((repeat ((conv => whnf); first | refine brT ?_ | refine brF ?_)); conv => whnf)
      (refine ⟨fun h3 => ?_, fun h3 => ?_⟩ <;> rw [h3])
      · rw [notB_t] at h3
        ((repeat ((conv => whnf); first | refine brT ?_ | refine brF ?_)); conv => whnf)
        refine finI ?_
        rw [← cmpFL_drop hz hk hk2, List.drop_eq_getElem_cons hlt, List.drop_eq_getElem_cons hlt2]
        simp only [cmpFL, h3]
      · rw [notB_f] at h3
        ((repeat ((conv => whnf); first | refine brT ?_ | refine brF ?_)); conv => whnf)
        refine round_end (k + 1) ⟨hlt, hlt2, fun j x y hj hx hy => ?_⟩ (by omega) ⟨?_, trivial, rfl, rfl⟩
        · by_cases e : j = k
          · subst e; rw [List.getElem?_eq_getElem hlt] at hx; rw [List.getElem?_eq_getElem hlt2] at hy; cases hx; cases hy; exact h3
          · exact hz j x y (by omega) hx hy
        have e := step_i hlt hm
        ((repeat ((conv => whnf); first | refine ⟨e, ?_⟩ | refine ⟨rfl, ?_⟩)); trivial)
  · have h4 : k = ps.length := by rw [ltI_f] at h1; omega
    subst h4
    ((repeat ((conv => whnf); first | refine brT ?_ | refine brF ?_)); conv => whnf)
    intro _
    rw [List.length_map]
    ((repeat ((conv => whnf); first | refine brT ?_ | refine brF ?_)); conv => whnf)
    intro _
    rw [List.length_map]
    ((repeat ((conv => whnf); first | refine brT ?_ | refine brF ?_)); conv => whnf)
    (refine ⟨fun h5 => ?_, fun h5 => ?_⟩ <;> rw [h5])
    · rw [ltI_t] at h5
      ((repeat ((conv => whnf); first | refine brT ?_ | refine brF ?_)); conv => whnf)
      refine finI ?_
      rw [← cmpFL_drop hz hk hk2, List.drop_eq_nil_of_le (Nat.le_refl _), List.drop_eq_getElem_cons (l := qs) (i := ps.length) (by omega)]
      simp only [cmpFL]
    · rw [ltI_f] at h5
      ((repeat ((conv => whnf); first | refine brT ?_ | refine brF ?_)); conv => whnf)
      refine finI ?_
      rw [← cmpFL_drop hz hk hk2, List.drop_eq_nil_of_le (Nat.le_refl _), List.drop_eq_nil_of_le (by omega)]
      simp only [cmpFL]
def cmpPt (a b : List Pr) : Int := orL [cmpI a.length b.length, cmpFL a b]
theorem compareParts_spec (a b : List Pr) : FSpec env.P 149 [.sl (a.map Pr.lv), .sl (b.map Pr.lv)] (.int .i64 (cmpPt a b)) := by
  refine FSpec_of_code env_ok (fn := Try.f149) Try.func149 rfl Try.call149 _ _ ?_
  ((repeat ((conv => whnf); first | refine brT ?_ | refine brF ?_)); conv => whnf)
  intro _
  rw [List.length_map]
  ((repeat ((conv => whnf); first | refine brT ?_ | refine brF ?_)); conv => whnf)
  intro _
  rw [List.length_map]
  ((repeat ((conv => whnf); first | refine brT ?_ | refine brF ?_)); conv => whnf)
  refine ⟨_, compare_spec a.length b.length, ?_⟩
  ((repeat ((conv => whnf); first | refine brT ?_ | refine brF ?_)); conv => whnf)
  refine ⟨_, compareFunc_spec a b, ?_⟩
  ((repeat ((conv => whnf); first | refine brT ?_ | refine brF ?_)); conv => whnf)
  refine ⟨rfl, _, cmpOr_spec [cmpI a.length b.length, cmpFL a b], ?_⟩
  ((repeat ((conv => whnf); first | refine brT ?_ | refine brF ?_)); conv => whnf)
  exact finI rfl
theorem befL_drop {ps qs : List Pr} : ∀ {k : Nat}, (∀ j p q, j < k → ps[j]? = some p → qs[j]? = some q → eqI p.a q.a = true ∧ eqI p.b q.b = true) → k ≤ ps.length → k ≤ qs.length → befL (ps.drop k) (qs.drop k) = befL ps qs := by
  induction ps generalizing qs with
  | nil => intro k _ h1 h2; have : k = 0 := by simpa using h1
           subst this; rfl
  | cons p ps ih =>
    intro k h h1 h2
    cases k with
    | zero => rfl
    | succ k =>
      cases qs with
      | nil => simp at h2
      | cons q qs =>
        obtain ⟨h0, h0'⟩ := h 0 p q (by omega) rfl rfl
        simp only [List.drop_succ_cons, befL, h0, h0']
        exact ih (fun j x y hj hx hy => h (j + 1) x y (by omega) (by simpa using hx) (by simpa using hy)) (by simpa using h1) (by simpa using h2)
def befP (a b : List Pr) : Bool := match eqI (a.length : Int) b.length with | true => befL a b | false => ltI (a.length : Int) b.length
theorem l4Before_spec (ps qs : List Pr) : FSpec env.P 147 [.sl (ps.map Pr.lv), .sl (qs.map Pr.lv)] (.bool (befP ps qs)) := by
  refine FSpec_of_code env_ok (fn := Try.f147) Try.func147 rfl Try.call147 _ _ ?_
  ((repeat ((conv => whnf); first | refine brT ?_ | refine brF ?_)); conv => whnf)
  intro hm
  rw [List.length_map] at hm ⊢
  ((repeat ((conv => whnf); first | refine brT ?_ | refine brF ?_)); conv => whnf)
  intro hm2
  rw [List.length_map] at hm2 ⊢
  ((repeat ((conv => whnf); first | refine brT ?_ | refine brF ?_)); conv => whnf)
  (refine ⟨fun h => ?_, fun h => ?_⟩ <;> rw [h])
  · rw [notB_t] at h
    ((repeat ((conv => whnf); first | refine brT ?_ | refine brF ?_)); conv => whnf)
    intro _
    rw [List.length_map]
    ((repeat ((conv => whnf); first | refine brT ?_ | refine brF ?_)); conv => whnf)
    intro _
    rw [List.length_map]
    ((repeat ((conv => whnf); first | refine brT ?_ | refine brF ?_)); conv => whnf)
    exact fin (by unfold befP; rw [h])
  rw [notB_f] at h
  have hl : ps.length = qs.length := by rw [eqI_t] at h; omega
  ((repeat ((conv => whnf); first | refine brT ?_ | refine brF ?_)); conv => whnf)
  intro _
  rw [List.length_map]
  ((repeat ((conv => whnf); first | refine brT ?_ | refine brF ?_)); conv => whnf)
  refine loop_rule (α := Nat) (fun k => [(18, .int .i64 (k : Int))]) (fun _ => []) (fun k => ps.length - k) (fun k => k ≤ ps.length ∧ ∀ j p q, j < k → ps[j]? = some p → qs[j]? = some q → eqI p.a q.a = true ∧ eqI p.b q.b = true) 0 ⟨Nat.zero_le _, fun _ _ _ h => absurd h (Nat.not_lt_zero _)⟩ ?_ ?_
  · refine ⟨?_, trivial, rfl, rfl⟩
    ((repeat ((conv => whnf); refine ⟨rfl, ?_⟩)); trivial)
  rintro k ⟨hk, hz⟩
  have hk2 : k ≤ qs.length := by omega
  ((repeat ((conv => whnf); first | refine brT ?_ | refine brF ?_)); conv => whnf)
  (refine ⟨fun h1 => ?_, fun h1 => ?_⟩ <;> rw [h1])
  · have hlt : k < ps.length := by rw [ltI_t] at h1; omega
    have hlt2 : k < qs.length := by omega
    have e1 : befP ps qs = befL (ps[k] :: ps.drop (k + 1)) (qs[k] :: qs.drop (k + 1)) := by
      unfold befP; rw [h]; simp only
      rw [← befL_drop hz hk hk2, List.drop_eq_getElem_cons hlt, List.drop_eq_getElem_cons hlt2]
    ((repeat ((conv => whnf); first | refine brT ?_ | refine brF ?_)); conv => whnf)
    refine ⟨true, by kernel_rfl, ?_⟩
    ((repeat ((conv => whnf); first | refine brT ?_ | refine brF ?_)); conv => whnf)
    refine ⟨k, ps[k].lv, rfl, by simp [hlt], rfl, ?_⟩
    ((repeat ((conv => whnf); first | refine brT ?_ | refine brF ?_)); conv => whnf)
    refine ⟨k, qs[k].lv, rfl, by simp [hlt2], rfl, ?_⟩
    ((repeat ((conv => whnf); first | refine brT ?_ | refine brF ?_)); conv => whnf)
    (refine ⟨fun h2 => ?_, fun h2 => ?_⟩ <;> rw [h2])
    · rw [notB_t] at h2
      ((repeat ((conv => whnf); first | refine brT ?_ | refine brF ?_)); conv => whnf)
      refine ⟨true, by kernel_rfl, ?_⟩
      ((repeat ((conv => whnf); first | refine brT ?_ | refine brF ?_)); conv => whnf)
      refine ⟨k, ps[k].lv, rfl, by simp [hlt], rfl, ?_⟩
      ((repeat ((conv => whnf); first | refine brT ?_ | refine brF ?_)); conv => whnf)
      refine ⟨k, qs[k].lv, rfl, by simp [hlt2], rfl, ?_⟩
      ((repeat ((conv => whnf); first | refine brT ?_ | refine brF ?_)); conv => whnf)
      exact fin (by rw [e1]; simp only [befL, h2])
    rw [notB_f] at h2
    ((repeat ((conv => whnf); first | refine brT ?_ | refine brF ?_)); conv => whnf)
    refine ⟨true, by kernel_rfl, ?_⟩
    ((repeat ((conv => whnf); first | refine brT ?_ | refine brF ?_)); conv => whnf)
    refine ⟨k, ps[k].lv, rfl, by simp [hlt], rfl, ?_⟩
    ((repeat ((conv => whnf); first | refine brT ?_ | refine brF ?_)); conv => whnf)
    refine ⟨k, qs[k].lv, rfl, by simp [hlt2], rfl, ?_⟩
    ((repeat ((conv => whnf); first | refine brT ?_ | refine brF ?_)); conv => whnf)
    (refine ⟨fun h3 => ?_, fun h3 => ?_⟩ <;> rw [h3])
    · rw [notB_t] at h3
      ((repeat ((conv => whnf); first | refine brT ?_ | refine brF ?_)); conv => whnf)
      refine ⟨true, by kernel_rfl, ?_⟩
      ((repeat ((conv => whnf); first | refine brT ?_ | refine brF ?_)); conv => whnf)
      refine ⟨k, ps[k].lv, rfl, by simp [hlt], rfl, ?_⟩
      ((repeat ((conv => whnf); first | refine brT ?_ | refine brF ?_)); conv => whnf)
      refine ⟨k, qs[k].lv, rfl, by simp [hlt2], rfl, ?_⟩
      ((repeat ((conv => whnf); first | refine brT ?_ | refine brF ?_)); conv => whnf)
      exact fin (by rw [e1]; simp only [befL, h2, h3])
    rw [notB_f] at h3
    ((repeat ((conv => whnf); first | refine brT ?_ | refine brF ?_)); conv => whnf)
    refine round_end (k + 1) ⟨hlt, fun j x y hj hx hy => ?_⟩ (by omega) ⟨?_, trivial, rfl, rfl⟩
    · by_cases e : j = k
      · subst e; rw [List.getElem?_eq_getElem hlt] at hx; rw [List.getElem?_eq_getElem hlt2] at hy; cases hx; cases hy; exact ⟨h2, h3⟩
      · exact hz j x y (by omega) hx hy
    have e := step_i hlt hm
    ((repeat ((conv => whnf); first | refine ⟨e, ?_⟩ | refine ⟨rfl, ?_⟩)); trivial)
  · have h4 : k = ps.length := by rw [ltI_f] at h1; omega
    subst h4
    ((repeat ((conv => whnf); first | refine brT ?_ | refine brF ?_)); conv => whnf)
    refine fin ?_
    unfold befP; rw [h]; simp only
    rw [← befL_drop hz hk hk2, List.drop_eq_nil_of_le (Nat.le_refl _)]
    simp only [befL]
theorem cmpI_neg (a b : Int) : ltI (cmpI a b) 0 = ltI a b := by
  unfold cmpI
  cases h : ltI a b <;> simp only
  · cases h2 : ltI b a <;> simp only <;> rw [ltI_f] <;> omega
  · rw [ltI_t]; omega
theorem cmpI_zero (a b : Int) : eqI (cmpI a b) 0 = eqI a b := by
  unfold cmpI
  cases h : ltI a b <;> simp only
  · rw [ltI_f] at h
    cases h2 : ltI b a <;> simp only
    · rw [ltI_f] at h2; rw [eqI_refl, eq_comm, eqI_t]; omega
    · rw [ltI_t] at h2
      rw [show eqI 1 0 = false by rw [eqI_f]; omega, eq_comm, eqI_f]; omega
  · rw [ltI_t] at h
    rw [show eqI (-1) 0 = false by rw [eqI_f]; omega, eq_comm, eqI_f]; omega
theorem cmpS_zero (p q : Pr) : eqI (cmpS p q) 0 = (eqI p.a q.a && eqI p.b q.b) := by
  unfold cmpS
  simp only [orL, cmpI_zero]
  cases h1 : eqI p.a q.a <;> simp only [Bool.false_and, Bool.true_and]
  · rw [cmpI_zero, h1]
  · cases h2 : eqI p.b q.b <;> simp only [eqI_refl]
    rw [cmpI_zero, h2]
theorem cmpS_neg (p q : Pr) : ltI (cmpS p q) 0 = (match eqI p.a q.a with | true => ltI p.b q.b | false => ltI p.a q.a) := by
  unfold cmpS
  simp only [orL, cmpI_zero]
  cases h1 : eqI p.a q.a <;> simp only
  · rw [cmpI_neg]
  · cases h2 : eqI p.b q.b <;> simp only
    · rw [cmpI_neg]
    · rw [eqI_t] at h2
      rw [show ltI 0 0 = false by rw [ltI_f]; omega, eq_comm, ltI_f]; omega
theorem cmpFL_neg : ∀ (a b : List Pr), a.length = b.length → ltI (cmpFL a b) 0 = befL a b
  | [], [], _ => by simp only [cmpFL, befL]; rw [ltI_f]; omega
  | [], _ :: _, h => by simp at h
  | _ :: _, [], h => by simp at h
  | p :: ps, q :: qs, h => by
    simp only [cmpFL, befL, cmpS_zero]
    have ih := cmpFL_neg ps qs (by simpa using h)
    cases h1 : eqI p.a q.a <;> simp only [Bool.false_and, Bool.true_and]
    · rw [cmpS_neg, h1]
    · cases h2 : eqI p.b q.b <;> simp only
      · rw [cmpS_neg, h1]
      · exact ih
theorem cmpPt_neg (a b : List Pr) : ltI (cmpPt a b) 0 = befP a b := by
  unfold cmpPt befP
  simp only [orL, cmpI_zero]
  cases h : eqI (a.length : Int) b.length <;> simp only
  · rw [cmpI_neg]
  · have hl : a.length = b.length := by rw [eqI_t] at h; omega
    rw [← cmpFL_neg a b hl]
    cases h2 : eqI (cmpFL a b) 0 <;> simp only
    rw [eqI_t] at h2
    rw [h2]
end Go.Proofs.Ytomjdjceflbifaa

namespace Go.Proofs.Ytomjdjceflbifaa
open Go.Lg
set_option maxHeartbeats 1600000
set_option maxRecDepth 10000
set_option linter.unusedVariables false
set_option linter.unusedSimpArgs false

theorem Weak.idn {n0 : Nat} {ts : List LV} {H : List Blk} (h1 : wk ts ts) (h2 : wkH n0 H H) (h3 : (scs (below H.length) ts && H.all (scB (below H.length))) = true) : Weak n0 ts H ts H := by
  simp only [Bool.and_eq_true] at h3
  exact .inl ⟨h1, h2, h3.1, h3.2⟩

theorem isPlace_spec (x : Int) : FSpec env.P 148 [.int .i64 x] (.bool (eqI x 0 || eqI x 1 || eqI x 2)) := by
  refine FSpec_of_code env_ok (fn := Try.f148) Try.func148 rfl Try.call148 _ _ ?_
  ((repeat' (((repeat ((conv => whnf); first | refine brT ?_ | refine brF ?_)); conv => whnf); (refine And.intro ?_ ?_ <;> (intro h; rw [h]; revert h; intro _)))); all_goals ((repeat ((conv => whnf); first | refine brT ?_ | refine brF ?_)); conv => whnf))
  all_goals (refine fin ?_; simp_all)
/-- With this sex, the rule's parts go together. -/
def okS (fr to : List Pr) (s : Int) : Bool := !typB s fr || (typB s to && eqI (lastT s fr) (lastT s to))
theorem okS_1 {fr to : List Pr} {s : Int} (h : typB s fr = false) : okS fr to s = true := by unfold okS; rw [h]; rfl
theorem okS_2 {fr to : List Pr} {s : Int} (h : typB s fr = true) (h1 : typB s to = false) : okS fr to s = false := by unfold okS; rw [h, h1]; rfl
theorem okS_3 {fr to : List Pr} {s : Int} {b : Bool} (h : typB s fr = true) (h1 : typB s to = true) (h2 : eqI (sexR s fr) (sexR s to) = b) : okS fr to s = b := by
  unfold okS; unfold sexR at h2; rw [h, h1] at *; simpa using h2
def sexL (x : Int) : List Int := match eqI x 0 with | true => [1, 2] | false => [x]
def keepB (x : Int) (fr to : List Pr) : Bool := (sexL x).all (okS fr to) && (sexL x).any fun s => typB s fr

theorem all_take_succ {f : Int → Bool} {L : List Int} {k : Nat} (hk : k < L.length) (h : (L.take k).all f = true) (h1 : f L[k] = true) : (L.take (k + 1)).all f = true := by
  rw [List.take_succ_eq_append_getElem hk, List.all_append, h]; simp [h1]
theorem any_take_succ {f : Int → Bool} {L : List Int} {k : Nat} (hk : k < L.length) : (L.take (k + 1)).any f = ((L.take k).any f || f L[k]) := by
  rw [List.take_succ_eq_append_getElem hk, List.any_append]; simp
theorem all_no {f : Int → Bool} {L : List Int} {k : Nat} (hk : k < L.length) (h1 : f L[k] = false) : L.all f = false := by
  rw [List.all_eq_false]
  exact ⟨L[k], List.getElem_mem hk, by simp [h1]⟩
theorem keepsSexes_spec (r : Rul) : FSpec env.P 150 [r.lv] (.bool (keepB r.sex r.fr r.to)) := by
  refine FSpec_of_code env_ok (fn := Try.f150) Try.func150 rfl Try.call150 _ _ ?_
  ((repeat ((conv => whnf); first | refine brT ?_ | refine brF ?_)); conv => whnf)
  (refine ⟨fun h0 => ?_, fun h0 => ?_⟩ <;> rw [h0])
  · have hL : sexL r.sex = [1, 2] := by unfold sexL; rw [h0]
    generalize hg : ([1, 2] : List Int) = L at hL
    have hl : L.length = 2 := by rw [← hg]; rfl
    ((repeat ((conv => whnf); first | refine brT ?_ | refine brF ?_)); conv => whnf)
    refine ⟨rfl, ?_⟩
    ((repeat ((conv => whnf); first | refine brT ?_ | refine brF ?_)); conv => whnf)
    intro _
    ((repeat ((conv => whnf); first | refine brT ?_ | refine brF ?_)); conv => whnf)
    refine loop_rule (α := Nat) (fun k => [(18, .int .i64 (k : Int)), (4, .bool ((L.take k).any fun s => typB s r.fr))]) (fun _ => [.box r.lv, .arr 3 1 [.int .i64 r.sex], .arr 3 1 (L.map fun x => .int .i64 x)]) (fun k => 2 - k)
      (fun k => k ≤ 2 ∧ (L.take k).all (okS r.fr r.to) = true) 0 ⟨Nat.zero_le _, rfl⟩ ?_ ?_
    · subst hg
      refine ⟨?_, ?_, rfl, rfl⟩
      · ((repeat ((conv => whnf); refine ⟨rfl, ?_⟩)); trivial)
      · ((repeat ((conv => whnf); refine ⟨rfl, ?_⟩)); trivial)
    rintro k ⟨hk, hz⟩
    ((repeat ((conv => whnf); first | refine brT ?_ | refine brF ?_)); conv => whnf)
    (refine ⟨fun h1 => ?_, fun h1 => ?_⟩ <;> rw [h1])
    · have hlt : k < 2 := by rw [ltI_t] at h1; simp at h1; omega
      have hlt2 : k < L.length := by omega
      ((repeat ((conv => whnf); first | refine brT ?_ | refine brF ?_)); conv => whnf)
      refine ⟨by simp [hl], rfl, k, rfl, by simp [hl]; omega, ?_⟩
      ((repeat ((conv => whnf); first | refine brT ?_ | refine brF ?_)); conv => whnf)
      refine ⟨by simp [hl], by simp, .int .i64 L[k], by simp [getP, hlt2], rfl, ?_⟩
      ((repeat ((conv => whnf); first | refine brT ?_ | refine brF ?_)); conv => whnf)
      refine ⟨false, 0, 0, 0, [0, 1, 2, 3, 4, 5, 6, 7], (.alt 8 (.one 9 (.one 10 (.one 11 .done))) (.one 9 (.one 8 (.one 10 (.one 11 .done))))), by kernel_rfl, ?_⟩
      ((repeat ((conv => whnf); first | refine brT ?_ | refine brF ?_)); conv => whnf)
      apply Exists.intro
      apply Exists.intro
      refine And.intro ?_ ?_
      · refine ⟨?_, ?_⟩
        · ((repeat ((conv => whnf); first | refine brT ?_ | refine brF ?_)); conv => whnf)
          refine Weak.idn ?_ ?_ rfl
          · ((repeat ((conv => whnf); refine ⟨rfl, ?_⟩)); trivial)
          · exact ⟨rfl, rfl, rfl, rfl, rfl, trivial⟩
        · ((repeat ((conv => whnf); first | refine brT ?_ | refine brF ?_)); conv => whnf)
          refine .inr ⟨[.old 0, .old 1, .old 2, .old 4, .old 3], ?_, ⟨rfl, rfl, rfl, rfl, rfl, rfl, rfl, rfl, rfl, rfl, trivial⟩, rfl⟩
          ((repeat ((conv => whnf); refine ⟨rfl, rfl, ?_⟩)); trivial)
      ((repeat ((conv => whnf); first | refine brT ?_ | refine brF ?_)); conv => whnf)
      refine ⟨_, isType_impl L[k] r.fr, ?_⟩
      ((repeat ((conv => whnf); first | refine brT ?_ | refine brF ?_)); conv => whnf)
      have e := step_i hlt (show 2 ≤ Go.maxLen by decide)
      (refine ⟨fun h2 => ?_, fun h2 => ?_⟩ <;> rw [h2])
      · rw [notB_t] at h2
        ((repeat ((conv => whnf); first | refine brT ?_ | refine brF ?_)); conv => whnf)
        refine round_end (k + 1) ⟨hlt, all_take_succ hlt2 hz (okS_1 h2)⟩ (by omega) ⟨?_, ⟨rfl, rfl, rfl, trivial⟩, rfl, rfl⟩
        have e2 : LV.bool ((L.take k).any fun s => typB s r.fr) = LV.bool ((L.take (k + 1)).any fun s => typB s r.fr) := by rw [any_take_succ hlt2, h2, Bool.or_false]
        (repeat ((conv => whnf); first | refine ⟨e, ?_⟩ | refine ⟨e2, ?_⟩ | refine ⟨rfl, ?_⟩))
        trivial
      rw [notB_f] at h2
      ((repeat ((conv => whnf); first | refine brT ?_ | refine brF ?_)); conv => whnf)
      refine ⟨true, by kernel_rfl, ?_⟩
      ((repeat ((conv => whnf); first | refine brT ?_ | refine brF ?_)); conv => whnf)
      refine ⟨_, isType_impl L[k] r.to, ?_⟩
      ((repeat ((conv => whnf); first | refine brT ?_ | refine brF ?_)); conv => whnf)
      (refine ⟨fun h3 => ?_, fun h3 => ?_⟩ <;> rw [h3])
      · rw [notB_t] at h3
        ((repeat ((conv => whnf); first | refine brT ?_ | refine brF ?_)); conv => whnf)
        exact fin (by unfold keepB; rw [hL, all_no hlt2 (okS_2 h2 h3)]; rfl)
      rw [notB_f] at h3
      ((repeat ((conv => whnf); first | refine brT ?_ | refine brF ?_)); conv => whnf)
      refine ⟨_, sexOfType_impl L[k] r.fr, ?_⟩
      ((repeat ((conv => whnf); first | refine brT ?_ | refine brF ?_)); conv => whnf)
      refine ⟨_, sexOfType_impl L[k] r.to, ?_⟩
      ((repeat ((conv => whnf); first | refine brT ?_ | refine brF ?_)); conv => whnf)
      (refine ⟨fun h4 => ?_, fun h4 => ?_⟩ <;> rw [h4])
      · rw [notB_t] at h4
        ((repeat ((conv => whnf); first | refine brT ?_ | refine brF ?_)); conv => whnf)
        exact fin (by unfold keepB; rw [hL, all_no hlt2 (okS_3 h2 h3 h4)]; rfl)
      rw [notB_f] at h4
      ((repeat ((conv => whnf); first | refine brT ?_ | refine brF ?_)); conv => whnf)
      refine round_end (k + 1) ⟨hlt, all_take_succ hlt2 hz (okS_3 h2 h3 h4)⟩ (by omega) ⟨?_, ⟨rfl, rfl, rfl, trivial⟩, rfl, rfl⟩
      have e2 : LV.bool true = LV.bool ((L.take (k + 1)).any fun s => typB s r.fr) := by rw [any_take_succ hlt2, h2, Bool.or_true]
      (repeat ((conv => whnf); first | refine ⟨e, ?_⟩ | refine ⟨e2, ?_⟩ | refine ⟨rfl, ?_⟩))
      trivial
    · have h5 : k = 2 := by rw [ltI_f] at h1; simp at h1; omega
      subst h5
      ((repeat ((conv => whnf); first | refine brT ?_ | refine brF ?_)); conv => whnf)
      refine fin ?_
      rw [List.take_of_length_le (by omega)] at hz ⊢
      unfold keepB
      rw [hL, hz, Bool.true_and]
  · have hL : sexL r.sex = [r.sex] := by unfold sexL; rw [h0]
    generalize hg : ([r.sex] : List Int) = L at hL
    have hl : L.length = 1 := by rw [← hg]; rfl
    ((repeat ((conv => whnf); first | refine brT ?_ | refine brF ?_)); conv => whnf)
    refine ⟨rfl, ?_⟩
    ((repeat ((conv => whnf); first | refine brT ?_ | refine brF ?_)); conv => whnf)
    intro _
    ((repeat ((conv => whnf); first | refine brT ?_ | refine brF ?_)); conv => whnf)
    refine loop_rule (α := Nat) (fun k => [(18, .int .i64 (k : Int)), (4, .bool ((L.take k).any fun s => typB s r.fr))]) (fun _ => [.box r.lv, .arr 3 1 (L.map fun x => .int .i64 x)]) (fun k => 1 - k)
      (fun k => k ≤ 1 ∧ (L.take k).all (okS r.fr r.to) = true) 0 ⟨Nat.zero_le _, rfl⟩ ?_ ?_
    · subst hg
      refine ⟨?_, ?_, rfl, rfl⟩
      · ((repeat ((conv => whnf); refine ⟨rfl, ?_⟩)); trivial)
      · ((repeat ((conv => whnf); refine ⟨rfl, ?_⟩)); trivial)
    rintro k ⟨hk, hz⟩
    ((repeat ((conv => whnf); first | refine brT ?_ | refine brF ?_)); conv => whnf)
    (refine ⟨fun h1 => ?_, fun h1 => ?_⟩ <;> rw [h1])
    · have hlt : k < 1 := by rw [ltI_t] at h1; simp at h1; omega
      have hlt2 : k < L.length := by omega
      ((repeat ((conv => whnf); first | refine brT ?_ | refine brF ?_)); conv => whnf)
      refine ⟨by simp [hl], rfl, k, rfl, by simp [hl]; omega, ?_⟩
      ((repeat ((conv => whnf); first | refine brT ?_ | refine brF ?_)); conv => whnf)
      refine ⟨by simp [hl], by simp, .int .i64 L[k], by simp [getP, hlt2], rfl, ?_⟩
      ((repeat ((conv => whnf); first | refine brT ?_ | refine brF ?_)); conv => whnf)
      refine ⟨false, 0, 0, 0, [0, 1, 2, 3, 4, 5, 6, 7], (.alt 8 (.one 9 (.one 10 (.one 11 .done))) (.one 9 (.one 8 (.one 10 (.one 11 .done))))), by kernel_rfl, ?_⟩
      ((repeat ((conv => whnf); first | refine brT ?_ | refine brF ?_)); conv => whnf)
      apply Exists.intro
      apply Exists.intro
      refine And.intro ?_ ?_
      · refine ⟨?_, ?_⟩
        · ((repeat ((conv => whnf); first | refine brT ?_ | refine brF ?_)); conv => whnf)
          refine Weak.idn ?_ ?_ rfl
          · ((repeat ((conv => whnf); refine ⟨rfl, ?_⟩)); trivial)
          · exact ⟨rfl, rfl, rfl, rfl, trivial⟩
        · ((repeat ((conv => whnf); first | refine brT ?_ | refine brF ?_)); conv => whnf)
          refine .inr ⟨[.old 0, .old 1, .old 3, .old 2], ?_, ⟨rfl, rfl, rfl, rfl, rfl, rfl, rfl, rfl, trivial⟩, rfl⟩
          ((repeat ((conv => whnf); refine ⟨rfl, rfl, ?_⟩)); trivial)
      ((repeat ((conv => whnf); first | refine brT ?_ | refine brF ?_)); conv => whnf)
      refine ⟨_, isType_impl L[k] r.fr, ?_⟩
      ((repeat ((conv => whnf); first | refine brT ?_ | refine brF ?_)); conv => whnf)
      have e := step_i hlt (show 1 ≤ Go.maxLen by decide)
      (refine ⟨fun h2 => ?_, fun h2 => ?_⟩ <;> rw [h2])
      · rw [notB_t] at h2
        ((repeat ((conv => whnf); first | refine brT ?_ | refine brF ?_)); conv => whnf)
        refine round_end (k + 1) ⟨hlt, all_take_succ hlt2 hz (okS_1 h2)⟩ (by omega) ⟨?_, ⟨rfl, rfl, trivial⟩, rfl, rfl⟩
        have e2 : LV.bool ((L.take k).any fun s => typB s r.fr) = LV.bool ((L.take (k + 1)).any fun s => typB s r.fr) := by rw [any_take_succ hlt2, h2, Bool.or_false]
        (repeat ((conv => whnf); first | refine ⟨e, ?_⟩ | refine ⟨e2, ?_⟩ | refine ⟨rfl, ?_⟩))
        trivial
      rw [notB_f] at h2
      ((repeat ((conv => whnf); first | refine brT ?_ | refine brF ?_)); conv => whnf)
      refine ⟨true, by kernel_rfl, ?_⟩
      ((repeat ((conv => whnf); first | refine brT ?_ | refine brF ?_)); conv => whnf)
      refine ⟨_, isType_impl L[k] r.to, ?_⟩
      ((repeat ((conv => whnf); first | refine brT ?_ | refine brF ?_)); conv => whnf)
      (refine ⟨fun h3 => ?_, fun h3 => ?_⟩ <;> rw [h3])
      · rw [notB_t] at h3
        ((repeat ((conv => whnf); first | refine brT ?_ | refine brF ?_)); conv => whnf)
        exact fin (by unfold keepB; rw [hL, all_no hlt2 (okS_2 h2 h3)]; rfl)
      rw [notB_f] at h3
      ((repeat ((conv => whnf); first | refine brT ?_ | refine brF ?_)); conv => whnf)
      refine ⟨_, sexOfType_impl L[k] r.fr, ?_⟩
      ((repeat ((conv => whnf); first | refine brT ?_ | refine brF ?_)); conv => whnf)
      refine ⟨_, sexOfType_impl L[k] r.to, ?_⟩
      ((repeat ((conv => whnf); first | refine brT ?_ | refine brF ?_)); conv => whnf)
      (refine ⟨fun h4 => ?_, fun h4 => ?_⟩ <;> rw [h4])
      · rw [notB_t] at h4
        ((repeat ((conv => whnf); first | refine brT ?_ | refine brF ?_)); conv => whnf)
        exact fin (by unfold keepB; rw [hL, all_no hlt2 (okS_3 h2 h3 h4)]; rfl)
      rw [notB_f] at h4
      ((repeat ((conv => whnf); first | refine brT ?_ | refine brF ?_)); conv => whnf)
      refine round_end (k + 1) ⟨hlt, all_take_succ hlt2 hz (okS_3 h2 h3 h4)⟩ (by omega) ⟨?_, ⟨rfl, rfl, trivial⟩, rfl, rfl⟩
      have e2 : LV.bool true = LV.bool ((L.take (k + 1)).any fun s => typB s r.fr) := by rw [any_take_succ hlt2, h2, Bool.or_true]
      (repeat ((conv => whnf); first | refine ⟨e, ?_⟩ | refine ⟨e2, ?_⟩ | refine ⟨rfl, ?_⟩))
      trivial
    · have h5 : k = 1 := by rw [ltI_f] at h1; simp at h1; omega
      subst h5
      ((repeat ((conv => whnf); first | refine brT ?_ | refine brF ?_)); conv => whnf)
      refine fin ?_
      rw [List.take_of_length_le (by omega)] at hz ⊢
      unfold keepB
      rw [hL, hz, Bool.true_and]
end Go.Proofs.Ytomjdjceflbifaa

namespace Go.Proofs.Ytomjdjceflbifaa
open Go.Lg
set_option maxHeartbeats 1600000
set_option maxRecDepth 10000
set_option linter.unusedVariables false
set_option linter.unusedSimpArgs false

/-- The first j places from the end. -/
def bwL (n j : Nat) : List Nat := (List.range j).map fun t => n - 1 - t
theorem bwL_succ (n j : Nat) : bwL n (j + 1) = bwL n j ++ [n - 1 - j] := by simp [bwL, List.range_succ]
theorem bwL_len (n j : Nat) : (bwL n j).length = j := by simp [bwL]
theorem bwL_pre {n j m : Nat} (h : j ≤ m) : ∃ post, bwL n m = bwL n j ++ post := by
  obtain ⟨d, rfl⟩ := Nat.exists_eq_add_of_le h
  clear h
  induction d with
  | zero => exact ⟨[], by simp⟩
  | succ d ih =>
    obtain ⟨post, hp⟩ := ih
    exact ⟨post ++ [n - 1 - (j + d)], by rw [← Nat.add_assoc, bwL_succ, hp, List.append_assoc]⟩
theorem bwL_at {n j m : Nat} (h : j < m) : ∃ post, bwL n m = bwL n j ++ (n - 1 - j) :: post := by
  obtain ⟨post, hp⟩ := bwL_pre (n := n) (m := m) (j := j + 1) h
  exact ⟨post, by rw [hp, bwL_succ, List.append_assoc]; rfl⟩
def bwE (vs : List Int) (i : Nat) : List LV := [.int .i64 (i : Int), .int .i64 (vs.getD i 0)]
theorem bwE_pre (vs : List Int) {n j m : Nat} (h : j < m) : ∃ post, (bwL n m).map (bwE vs) = (bwL n j).map (bwE vs) ++ bwE vs (n - 1 - j) :: post := by
  obtain ⟨post, hp⟩ := bwL_at (n := n) h
  exact ⟨post.map (bwE vs), by rw [hp, List.map_append]; rfl⟩

theorem backward_h (vs : List Int) : HSpec env.P 90 [.sl (vs.map intLV)] [] (.clos 140 [.hp 0 0 []]) [.box (.sl (vs.map intLV))] := by
  refine HSpec_of_code (E := env.x [] 0) env_ok.x (fn := Try.f90) Try.func90 rfl Try.call90 _ _ _ _ ?_
  ((repeat ((conv => whnf); first | refine brT ?_ | refine brF ?_)); conv => whnf)
  exact ⟨[.clos 140 [.hp 0 0 []]], rfl, rfl, .inl ⟨⟨rfl, trivial⟩, ⟨rfl, trivial⟩, rfl, rfl⟩⟩

theorem backward_g (vs : List Int) (hl : vs.length ≤ Go.maxLen) : GSpec env.P 140 [.ref (.sl (vs.map intLV))] ((bwL vs.length vs.length).map (bwE vs)) := by
  refine GSpec_of_code (E := env) env_ok (fn := Try.f140) Try.func140 rfl rfl (by kernel_rfl) Try.call140 _ _ ?_
  have hl' := hl
  unfold Go.maxLen at hl
  intro l
  ((repeat ((conv => whnf); first | refine brT ?_ | refine brF ?_)); conv => whnf)
  refine ⟨true, ?_⟩
  ((repeat ((conv => whnf); first | refine brT ?_ | refine brF ?_)); conv => whnf)
  intro _
  ((repeat ((conv => whnf); first | refine brT ?_ | refine brF ?_)); conv => whnf)
  rw [List.length_map]
  refine loopY_rule (α := Nat) (fun j => [(3, .int .i64 ((vs.length : Int) - 1 - (j : Int)))]) (fun _ => []) (fun j => some ((bwL vs.length j).map (bwE vs))) (fun j => vs.length + 1 - j) (fun j => j ≤ vs.length) 0 (Nat.zero_le _) rfl 0 (fun _ => rfl) (.inl ⟨?_, trivial, rfl, rfl⟩) ?_
  · have e : LV.int .i64 (IntKind.i64.wrap ((vs.length : Int) - 1)) = LV.int .i64 ((vs.length : Int) - 1 - ((0 : Nat) : Int)) := by rw [wrap64 (by omega) (by omega)]; simp
    ((repeat ((conv => whnf); first | refine ⟨e, ?_⟩ | refine ⟨rfl, ?_⟩)); trivial)
  intro j hj
  ((repeat ((conv => whnf); first | refine brT ?_ | refine brF ?_)); conv => whnf)
  refine ⟨true, ?_⟩
  ((repeat ((conv => whnf); first | refine brT ?_ | refine brF ?_)); conv => whnf)
  (refine ⟨fun h1 => ?_, fun h1 => ?_⟩ <;> rw [h1])
  · have hlt : j < vs.length := by rw [leI_t] at h1; omega
    obtain ⟨m, hm, hmn⟩ : ∃ m : Nat, (vs.length : Int) - 1 - (j : Int) = (m : Int) ∧ m = vs.length - 1 - j := ⟨vs.length - 1 - j, by omega, rfl⟩
    have hm1 : m < vs.length := by omega
    have hx := bwE_pre vs (n := vs.length) hlt
    rw [← hmn] at hx
    have hs : (bwL vs.length j).map (bwE vs) ++ [bwE vs m] = (bwL vs.length (j + 1)).map (bwE vs) := by rw [bwL_succ, List.map_append, hmn]; rfl
    rw [hm]
    ((repeat ((conv => whnf); first | refine brT ?_ | refine brF ?_)); conv => whnf)
    refine ⟨false, 6, ?_⟩
    ((repeat ((conv => whnf); first | refine brT ?_ | refine brF ?_)); conv => whnf)
    refine ⟨m, intLV vs[m], rfl, by simp [hm1], rfl, ?_⟩
    ((repeat ((conv => whnf); first | refine brT ?_ | refine brF ?_)); conv => whnf)
    have he : bwE vs m = [.int .i64 (m : Int), intLV vs[m]] := by simp [bwE, hm1, intLV]
    rw [he] at hx hs
    refine ⟨_, _, Weak.idn ?_ trivial rfl, rfl, ?_⟩
    · ((repeat ((conv => whnf); refine ⟨rfl, ?_⟩)); trivial)
    ((repeat ((conv => whnf); first | refine brT ?_ | refine brF ?_)); conv => whnf)
    refine ⟨rfl, hx, ?_, ?_⟩
    · ((repeat ((conv => whnf); first | refine brT ?_ | refine brF ?_)); conv => whnf)
      rw [show notB true = false by simp [notB]]
      ((repeat ((conv => whnf); first | refine brT ?_ | refine brF ?_)); conv => whnf)
      refine ⟨true, ?_⟩
      ((repeat ((conv => whnf); first | refine brT ?_ | refine brF ?_)); conv => whnf)
      have e : LV.int .i64 (IntKind.i64.wrap ((m : Int) - 1)) = LV.int .i64 ((vs.length : Int) - 1 - ((j + 1 : Nat) : Int)) := by rw [wrap64 (by omega) (by omega)]; congr 1; omega
      refine ⟨rfl, j + 1, hlt, by omega, congrArg some hs, .inl ⟨?_, trivial, rfl, rfl⟩⟩
      ((repeat ((conv => whnf); first | refine ⟨e, ?_⟩ | refine ⟨rfl, ?_⟩)); trivial)
    · ((repeat ((conv => whnf); first | refine brT ?_ | refine brF ?_)); conv => whnf)
      rw [show notB false = true by simp [notB]]
      ((repeat ((conv => whnf); first | refine brT ?_ | refine brF ?_)); conv => whnf)
      trivial
  · have hjn : j = vs.length := by rw [leI_f] at h1; omega
    subst hjn
    ((repeat ((conv => whnf); first | refine brT ?_ | refine brF ?_)); conv => whnf)
end Go.Proofs.Ytomjdjceflbifaa

namespace Go.Proofs.Ytomjdjceflbifaa
open Go.Lg
set_option maxHeartbeats 1600000
set_option maxRecDepth 10000
set_option linter.unusedVariables false
set_option linter.unusedSimpArgs false

def toMn (k : Int) : Int := match (eqI k 1 || eqI k 2) with | true => 5 | false => match (eqI k 3 || eqI k 4) with | true => 3 | false => match (eqI k 5 || eqI k 6) with | true => 1 | false => 7
def bkAge (b : Int) : Int := match eqI b 1 with | true => 2 | false => match eqI b 2 with | true => 1 | false => 0
def bkI (s : Pr) (x : Int) : Pr := ⟨toMn s.a + x - 1, bkAge s.b⟩
theorem ageBack_spec (b : Int) : FSpec env.P 141 [.int .i64 b] (.int .i64 (bkAge b)) := by
  refine FSpec_of_code env_ok (fn := Try.f141) Try.func141 rfl Try.call141 _ _ ?_
  ((repeat' (((repeat ((conv => whnf); first | refine brT ?_ | refine brF ?_)); conv => whnf); (refine And.intro ?_ ?_ <;> (intro h; rw [h]; revert h; intro _)))); all_goals ((repeat ((conv => whnf); first | refine brT ?_ | refine brF ?_)); conv => whnf))
  all_goals (refine finI ?_; simp_all [bkAge])
theorem stepBack_spec (s : Pr) (x : Int) (hx : x = 1 ∨ x = 2) : FSpec env.P 92 [s.lv, .int .i64 x] (bkI s x).lv := by
  refine FSpec_of_code env_ok (fn := Try.f92) Try.func92 rfl Try.call92 _ _ ?_
  have ht : ∀ k, 1 ≤ toMn k ∧ toMn k ≤ 7 := fun k => by unfold toMn; cases (eqI k 1 || eqI k 2) <;> cases (eqI k 3 || eqI k 4) <;> cases (eqI k 5 || eqI k 6) <;> decide
  have e : ∀ k, IntKind.i64.wrap (IntKind.i64.wrap (toMn k + x) - 1) = toMn k + x - 1 := fun k => by
    have := ht k
    rw [wrap64 (n := toMn k + x) (by omega) (by omega), wrap64 (by omega) (by omega)]
  ((repeat' (((repeat ((conv => whnf); first | refine brT ?_ | refine brF ?_)); conv => whnf); first | (refine And.intro ?_ ?_ <;> (intro h; rw [h]; revert h; intro _)) | (refine Exists.intro true (And.intro (a := drawB _ _ = true) (by kernel_rfl) ?_)) | (refine Exists.intro _ (And.intro (ageBack_spec s.b) ?_)))); all_goals ((repeat ((conv => whnf); first | refine brT ?_ | refine brF ?_)); conv => whnf))
  all_goals (refine ⟨_, rfl, rfl, ?_⟩; have e' := e s.a; unfold bkI Pr.lv; simp_all [exW, exsW, toMn])
/-- The step back, as the model has it. -/
def bkS (s : Pr) (x : Int) : Pr := match (eqI s.a 1 || eqI s.a 2) with | true => ⟨5 + (match eqI x 2 with | true => 1 | false => 0), 0⟩ | false => match (eqI s.a 5 || eqI s.a 6) with | true => ⟨1 + (match eqI x 2 with | true => 1 | false => 0), 0⟩ | false => match eqI s.a 7 with | true => ⟨8, 0⟩ | false => match eqI s.a 8 with | true => ⟨7, 0⟩ | false => ⟨3 + (match eqI x 2 with | true => 1 | false => 0), match eqI s.b 0 with | true => 0 | false => IntKind.i64.wrap (3 - s.b)⟩
theorem l3Back_spec (s : Pr) (x : Int) : FSpec env.P 86 [s.lv, .int .i64 x] (bkS s x).lv := by
  refine FSpec_of_code env_ok (fn := Try.f86) Try.func86 rfl Try.call86 _ _ ?_
  have w : ∀ n : Int, 0 ≤ n → n ≤ 9 → IntKind.i64.wrap n = n := fun n h1 h2 => wrap64 (by omega) (by omega)
  have w1 := w 1 (by decide) (by decide)
  have w2 := w 2 (by decide) (by decide)
  have w3 := w 3 (by decide) (by decide)
  have w4 := w 4 (by decide) (by decide)
  have w5 := w 5 (by decide) (by decide)
  have w6 := w 6 (by decide) (by decide)
  clear w
  ((repeat' (((repeat ((conv => whnf); first | refine brT ?_ | refine brF ?_)); conv => whnf); (refine And.intro ?_ ?_ <;> (intro h; rw [h]; revert h; intro _)))); all_goals ((repeat ((conv => whnf); first | refine brT ?_ | refine brF ?_)); conv => whnf))
  all_goals (refine ⟨_, rfl, rfl, ?_⟩; unfold bkS Pr.lv; simp_all [exW, exsW, notB_t, notB_f])
  all_goals (try exact eqI_t.1 ‹_›)
theorem bk_eq {s : Pr} {x : Int} (h : stepB s.a s.b x = true) (hx : x = 1 ∨ x = 2) : bkS s x = bkI s x := by
  obtain ⟨a, b⟩ := s
  unfold stepB at h
  simp only [notB, eqI_d] at h
  have w1 : IntKind.i64.wrap 1 = 1 := wrap64 (by decide) (by decide)
  have w2 : IntKind.i64.wrap 2 = 2 := wrap64 (by decide) (by decide)
  have ha : (a = 1 ∨ a = 2 ∨ a = 3 ∨ a = 4 ∨ a = 5 ∨ a = 6 ∨ a = 7 ∨ a = 8) ∧ (b = 0 ∨ b = 1 ∨ b = 2) := by
    simp at h; omega
  obtain ⟨ha, hb⟩ := ha
  rcases hx with rfl | rfl <;> rcases ha with rfl | rfl | rfl | rfl | rfl | rfl | rfl | rfl <;> rcases hb with rfl | rfl | rfl <;>
    first
      | (exfalso; revert h; decide)
      | (simp [bkS, bkI, toMn, bkAge, eqI_d, w1, w2]; done)
end Go.Proofs.Ytomjdjceflbifaa

namespace Go.Proofs.Ytomjdjceflbifaa
open Go.Lg
set_option maxHeartbeats 1600000
set_option maxRecDepth 10000
set_option linter.unusedVariables false
set_option linter.unusedSimpArgs false

/-- Told from the end. -/
def revK (g : Nat → Pr) : Nat → List Pr
  | 0 => []
  | k + 1 => g k :: revK g k
theorem revK_len (g : Nat → Pr) : ∀ k, (revK g k).length = k
  | 0 => rfl
  | k + 1 => by simp [revK, revK_len g k]
theorem revK_congr {g h : Nat → Pr} : ∀ {k}, (∀ i, i < k → g i = h i) → revK g k = revK h k
  | 0, _ => rfl
  | k + 1, e => by simp only [revK]; rw [e k (by omega), revK_congr fun i hi => e i (by omega)]
theorem revK_get (g : Nat → Pr) : ∀ {k i : Nat}, i < k → (revK g k)[i]? = some (g (k - 1 - i))
  | 0, i, h => by omega
  | k + 1, 0, _ => by simp [revK]
  | k + 1, i + 1, h => by
    simp only [revK, List.getElem?_cons_succ]
    rw [revK_get g (by omega)]
    congr 2; omega
theorem revK_bw (g : Nat → Pr) (n : Nat) : (bwL n n).map g = revK g n := by
  apply List.ext_getElem?
  intro i
  by_cases h : i < n
  · rw [revK_get g h]; simp [bwL, h]
  · rw [List.getElem?_eq_none (by simp [bwL]; omega), List.getElem?_eq_none (by rw [revK_len]; omega)]
/-- A type that has a reverse. -/
def okV (e : Int) (ss : List Pr) : Bool := typB e ss && !(ltI 0 (ss.length : Int) && eqI (egoT e ss) 0)
def bkAt (e0 : Int) (ss : List Pr) (i : Nat) : Pr := bkI (ss.getD i ⟨0, 0⟩) (sexAt e0 ss i)
def bkAtS (e0 : Int) (ss : List Pr) (i : Nat) : Pr := bkS (ss.getD i ⟨0, 0⟩) (sexAt e0 ss i)
def revE (e : Int) (ss : List Pr) : Int := match okV e ss with | true => lastT e ss | false => 0
def revL (e : Int) (ss : List Pr) : List Pr := match okV e ss with | true => revK (bkAt (egoT e ss) ss) ss.length | false => []
def revLV (e : Int) (ss : List Pr) : LV := .tup [.st [.int .i64 (revE e ss), .own 96 2 ((revL e ss).map Pr.lv)], .bool (okV e ss)]
theorem revLV_no {e : Int} {ss : List Pr} (h : okV e ss = false) : revLV e ss = .tup [.st [.int .i64 0, .own 96 2 []], .bool false] := by
  unfold revLV revE revL; rw [h]; rfl
theorem revLV_yes {e : Int} {ss : List Pr} (h : okV e ss = true) : revLV e ss = .tup [.st [.int .i64 (lastT e ss), .own 96 2 ((revK (bkAt (egoT e ss) ss) ss.length).map Pr.lv)], .bool true] := by
  unfold revLV revE revL; rw [h]
theorem okV_sex {e : Int} {ss : List Pr} (h : okV e ss = true) : ∀ i, i < ss.length → (sexAt (egoT e ss) ss i = 1 ∨ sexAt (egoT e ss) ss i = 2) ∧ stepB (ss.getD i ⟨0, 0⟩).a (ss.getD i ⟨0, 0⟩).b (sexAt (egoT e ss) ss i) = true := by
  intro i hi
  unfold okV at h
  simp only [Bool.and_eq_true, Bool.not_eq_true'] at h
  obtain ⟨ht, hn⟩ := h
  unfold typB at ht
  simp only [Bool.and_eq_true, leI_t] at ht
  obtain ⟨⟨he0, he2⟩, _, hs⟩ := ht
  unfold stepsTo at hs
  rw [List.all_eq_true] at hs
  have h1 := hs i (by simpa using hi)
  have hg : ss.getD i ⟨0, 0⟩ = ss[i] := by simp [hi]
  simp only [List.getElem?_eq_getElem hi] at h1
  rw [hg]
  have hne : egoT e ss ≠ 0 := by
    intro h0; rw [h0] at hn
    have : ltI 0 (ss.length : Int) = true := by rw [ltI_t]; omega
    rw [this, eqI_refl] at hn
    cases hn
  cases i with
  | zero =>
    cases ss with
    | nil => simp at hi
    | cons s r =>
      simp only [sexAt, List.getElem_cons_zero] at h1 ⊢
      unfold egoT at hne ⊢
      unfold stepB at h1 ⊢
      simp only [eqI_d, notB] at h1 hne ⊢
      grind
  | succ j =>
    have hj : j < ss.length := by omega
    have : sexAt (egoT e ss) ss (j + 1) = sexAt e ss (j + 1) := by simp [sexAt, List.getElem?_eq_getElem hj]
    rw [this]
    refine ⟨?_, h1⟩
    simp only [sexAt, List.getElem?_eq_getElem hj]
    unfold sxOf
    split <;> simp
theorem bkAt_eq {e : Int} {ss : List Pr} (h : okV e ss = true) : revK (bkAtS (egoT e ss) ss) ss.length = revK (bkAt (egoT e ss) ss) ss.length :=
  revK_congr fun i hi => bk_eq ((okV_sex h i hi).2) (okV_sex h i hi).1

theorem prSzR (ss : List Pr) : ∀ y ∈ ss.map Pr.lv, y.size = 2 := fun y hy => by obtain ⟨p, _, rfl⟩ := List.mem_map.1 hy; rfl
theorem reverse_spec (e : Int) (ss : List Pr) (hl : ss.length ≤ 1048576) : FSpec env.P 34 [typLV e ss] (revLV e ss) := by
  refine FSpec_of_code env_ok (fn := Try.f34) Try.func34 rfl Try.call34 _ _ ?_
  have hp' : ss.length ≤ Go.maxLen := by unfold Go.maxLen; omega
  ((repeat ((conv => whnf); first | refine brT ?_ | refine brF ?_)); conv => whnf)
  refine ⟨_, isType_spec e ss, ?_⟩
  ((repeat ((conv => whnf); first | refine brT ?_ | refine brF ?_)); conv => whnf)
  (refine ⟨fun h1 => ?_, fun h1 => ?_⟩ <;> rw [h1])
  · rw [revLV_no (by unfold okV; rw [notB_t] at h1; rw [h1]; rfl)]
    ((repeat ((conv => whnf); first | refine brT ?_ | refine brF ?_)); conv => whnf)
    exact ⟨_, rfl, rfl, rfl, rfl, by decide, rfl, rfl, List.nodup_nil⟩
  rw [notB_f] at h1
  ((repeat ((conv => whnf); first | refine brT ?_ | refine brF ?_)); conv => whnf)
  intro hp
  rw [List.length_map]
  ((repeat ((conv => whnf); first | refine brT ?_ | refine brF ?_)); conv => whnf)
  (refine ⟨fun h2 => ?_, fun h2 => ?_⟩ <;> rw [h2])
  · ((repeat ((conv => whnf); first | refine brT ?_ | refine brF ?_)); conv => whnf)
    refine ⟨_, l3Ego_spec e ss, ?_⟩
    ((repeat ((conv => whnf); first | refine brT ?_ | refine brF ?_)); conv => whnf)
    (refine ⟨fun h3 => ?_, fun h3 => ?_⟩ <;> rw [h3])
    · rw [revLV_no (by unfold okV; rw [h1, h2, h3]; rfl)]
      ((repeat ((conv => whnf); first | refine brT ?_ | refine brF ?_)); conv => whnf)
      exact ⟨_, rfl, rfl, rfl, rfl, by decide, rfl, rfl, List.nodup_nil⟩
    have hok : okV e ss = true := by unfold okV; rw [h1, h2, h3]; rfl
    rw [revLV_yes hok, ← bkAt_eq hok]
    ((repeat ((conv => whnf); first | refine brT ?_ | refine brF ?_)); conv => whnf)
    refine ⟨_, l3Last_spec e ss, ?_⟩
    ((repeat ((conv => whnf); first | refine brT ?_ | refine brF ?_)); conv => whnf)
    refine ⟨_, l3Ego_spec e ss, ?_⟩
    ((repeat ((conv => whnf); first | refine brT ?_ | refine brF ?_)); conv => whnf)
    intro _
    ((repeat ((conv => whnf); first | refine brT ?_ | refine brF ?_)); conv => whnf)
    rw [List.length_map]
    refine loop_ruleR (α := Nat) [.old 0, .old 1, .old 2, .old 3] (fun k => [(29, .undef), (33, .int .i64 (k : Int)), (5, .int .i64 (sexAt (egoT e ss) ss k)), (6, .hs 3 ((revK (bkAtS (egoT e ss) ss) k).map Pr.lv).length)])
      (fun k => [.box (typLV e ss), .box (.st [.int .i64 0, .nil]), .box (.st [.int .i64 (lastT e ss), .nil]), .arr 96 2 ((revK (bkAtS (egoT e ss) ss) k).map Pr.lv)]) (fun k => ss.length - k) (fun k => k ≤ ss.length) 0 (Nat.zero_le _) ?_ ?_
    · refine ⟨?_, ⟨rfl, rfl, rfl, rfl, rfl, rfl, rfl, rfl, trivial⟩, rfl⟩
      ((repeat ((conv => whnf); refine ⟨rfl, rfl, ?_⟩)); trivial)
    intro k hk
    ((repeat ((conv => whnf); first | refine brT ?_ | refine brF ?_)); conv => whnf)
    (refine ⟨fun g1 => ?_, fun g1 => ?_⟩ <;> rw [g1])
    · have hlt : k < ss.length := by rw [ltI_t] at g1; omega
      have e1 : LV.int .i64 (IntKind.i64.wrap ((k : Int) + 1)) = LV.int .i64 ((k + 1 : Nat) : Int) := step_i hlt hp'
      have ek : bkS ss[k] (sexAt (egoT e ss) ss k) = bkAtS (egoT e ss) ss k := by simp [bkAtS, hlt]
      have e2 : [(bkS ss[k] (sexAt (egoT e ss) ss k)).lv] ++ (revK (bkAtS (egoT e ss) ss) k).map Pr.lv = (revK (bkAtS (egoT e ss) ss) (k + 1)).map Pr.lv := by rw [ek]; rfl
      have e3 : LV.hs 3 ([(bkS ss[k] (sexAt (egoT e ss) ss k)).lv] ++ (revK (bkAtS (egoT e ss) ss) k).map Pr.lv).length = LV.hs 3 ((revK (bkAtS (egoT e ss) ss) (k + 1)).map Pr.lv).length := by rw [e2]
      have e4 : LV.int .i64 (sxOf ss[k].a) = LV.int .i64 (sexAt (egoT e ss) ss (k + 1)) := by rw [sexAt_succ hlt]
      ((repeat ((conv => whnf); first | refine brT ?_ | refine brF ?_)); conv => whnf)
      refine ⟨k, ss[k].lv, rfl, by simp [hlt], rfl, ?_⟩
      ((repeat ((conv => whnf); first | refine brT ?_ | refine brF ?_)); conv => whnf)
      refine ⟨_, l3Back_spec ss[k] (sexAt (egoT e ss) ss k), ?_⟩
      ((repeat ((conv => whnf); first | refine brT ?_ | refine brF ?_)); conv => whnf)
      refine ⟨rfl, ?_⟩
      ((repeat ((conv => whnf); first | refine brT ?_ | refine brF ?_)); conv => whnf)
      refine ⟨rfl, ?_, ?_, ?_⟩
      · simp [revK_len]; unfold Go.maxLen; omega
      · simp [revK_len]; omega
      ((repeat ((conv => whnf); first | refine brT ?_ | refine brF ?_)); conv => whnf)
      refine ⟨_, l3Sex_spec ss[k].a, ?_⟩
      ((repeat ((conv => whnf); first | refine brT ?_ | refine brF ?_)); conv => whnf)
      refine round_endR [.old 0, .old 1, .old 2, .old 6] (k + 1) hlt (by omega) ⟨?_, ⟨rfl, rfl, rfl, rfl, rfl, rfl, rfl, congrArg (Blk.arr 96 2) e2, trivial⟩, rfl⟩
      repeat ((conv => whnf); first | refine ⟨rfl, e1, ?_⟩ | refine ⟨rfl, e3, ?_⟩ | refine ⟨rfl, e4, ?_⟩ | refine ⟨rfl, rfl, ?_⟩)
      trivial
    · have hkn : k = ss.length := by rw [ltI_f] at g1; omega
      subst hkn
      ((repeat ((conv => whnf); first | refine brT ?_ | refine brF ?_)); conv => whnf)
      exact ⟨_, rfl, rfl, rfl, rfl, rfl, rfl, rfl, rfl, rfl, by simp [exsW]⟩
  · have hok : okV e ss = true := by unfold okV; rw [h1, h2]; rfl
    rw [revLV_yes hok, ← bkAt_eq hok]
    ((repeat ((conv => whnf); first | refine brT ?_ | refine brF ?_)); conv => whnf)
    refine ⟨_, l3Last_spec e ss, ?_⟩
    ((repeat ((conv => whnf); first | refine brT ?_ | refine brF ?_)); conv => whnf)
    refine ⟨_, l3Ego_spec e ss, ?_⟩
    ((repeat ((conv => whnf); first | refine brT ?_ | refine brF ?_)); conv => whnf)
    intro _
    ((repeat ((conv => whnf); first | refine brT ?_ | refine brF ?_)); conv => whnf)
    rw [List.length_map]
    refine loop_ruleR (α := Nat) [.old 0, .old 1, .old 2, .old 3] (fun k => [(29, .undef), (33, .int .i64 (k : Int)), (5, .int .i64 (sexAt (egoT e ss) ss k)), (6, .hs 3 ((revK (bkAtS (egoT e ss) ss) k).map Pr.lv).length)])
      (fun k => [.box (typLV e ss), .box (.st [.int .i64 0, .nil]), .box (.st [.int .i64 (lastT e ss), .nil]), .arr 96 2 ((revK (bkAtS (egoT e ss) ss) k).map Pr.lv)]) (fun k => ss.length - k) (fun k => k ≤ ss.length) 0 (Nat.zero_le _) ?_ ?_
    · refine ⟨?_, ⟨rfl, rfl, rfl, rfl, rfl, rfl, rfl, rfl, trivial⟩, rfl⟩
      ((repeat ((conv => whnf); refine ⟨rfl, rfl, ?_⟩)); trivial)
    intro k hk
    ((repeat ((conv => whnf); first | refine brT ?_ | refine brF ?_)); conv => whnf)
    (refine ⟨fun g1 => ?_, fun g1 => ?_⟩ <;> rw [g1])
    · have hlt : k < ss.length := by rw [ltI_t] at g1; omega
      have e1 : LV.int .i64 (IntKind.i64.wrap ((k : Int) + 1)) = LV.int .i64 ((k + 1 : Nat) : Int) := step_i hlt hp'
      have ek : bkS ss[k] (sexAt (egoT e ss) ss k) = bkAtS (egoT e ss) ss k := by simp [bkAtS, hlt]
      have e2 : [(bkS ss[k] (sexAt (egoT e ss) ss k)).lv] ++ (revK (bkAtS (egoT e ss) ss) k).map Pr.lv = (revK (bkAtS (egoT e ss) ss) (k + 1)).map Pr.lv := by rw [ek]; rfl
      have e3 : LV.hs 3 ([(bkS ss[k] (sexAt (egoT e ss) ss k)).lv] ++ (revK (bkAtS (egoT e ss) ss) k).map Pr.lv).length = LV.hs 3 ((revK (bkAtS (egoT e ss) ss) (k + 1)).map Pr.lv).length := by rw [e2]
      have e4 : LV.int .i64 (sxOf ss[k].a) = LV.int .i64 (sexAt (egoT e ss) ss (k + 1)) := by rw [sexAt_succ hlt]
      ((repeat ((conv => whnf); first | refine brT ?_ | refine brF ?_)); conv => whnf)
      refine ⟨k, ss[k].lv, rfl, by simp [hlt], rfl, ?_⟩
      ((repeat ((conv => whnf); first | refine brT ?_ | refine brF ?_)); conv => whnf)
      refine ⟨_, l3Back_spec ss[k] (sexAt (egoT e ss) ss k), ?_⟩
      ((repeat ((conv => whnf); first | refine brT ?_ | refine brF ?_)); conv => whnf)
      refine ⟨rfl, ?_⟩
      ((repeat ((conv => whnf); first | refine brT ?_ | refine brF ?_)); conv => whnf)
      refine ⟨rfl, ?_, ?_, ?_⟩
      · simp [revK_len]; unfold Go.maxLen; omega
      · simp [revK_len]; omega
      ((repeat ((conv => whnf); first | refine brT ?_ | refine brF ?_)); conv => whnf)
      refine ⟨_, l3Sex_spec ss[k].a, ?_⟩
      ((repeat ((conv => whnf); first | refine brT ?_ | refine brF ?_)); conv => whnf)
      refine round_endR [.old 0, .old 1, .old 2, .old 6] (k + 1) hlt (by omega) ⟨?_, ⟨rfl, rfl, rfl, rfl, rfl, rfl, rfl, congrArg (Blk.arr 96 2) e2, trivial⟩, rfl⟩
      repeat ((conv => whnf); first | refine ⟨rfl, e1, ?_⟩ | refine ⟨rfl, e3, ?_⟩ | refine ⟨rfl, e4, ?_⟩ | refine ⟨rfl, rfl, ?_⟩)
      trivial
    · have hkn : k = ss.length := by rw [ltI_f] at g1; omega
      subst hkn
      ((repeat ((conv => whnf); first | refine brT ?_ | refine brF ?_)); conv => whnf)
      exact ⟨_, rfl, rfl, rfl, rfl, rfl, rfl, rfl, rfl, rfl, by simp [exsW]⟩
end Go.Proofs.Ytomjdjceflbifaa
