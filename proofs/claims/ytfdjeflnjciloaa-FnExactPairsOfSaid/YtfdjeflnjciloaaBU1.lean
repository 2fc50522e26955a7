/- Contracts of functions of the program and of its model, told over readings. -/
import Derived.Test.YtfdjeflnjciloaaBT9
import Derived.Test.YtfdjeflnjciloaaBT2
import Derived.Test.YtfdjeflnjciloaaBLgN
import Derived.Laws.RangeAny
namespace Go.Proofs.Ytfdjeflnjciloaa
open Go.Lg
set_option maxHeartbeats 400000
set_option maxRecDepth 10000
set_option linter.unusedVariables false
set_option linter.unusedSimpArgs false

theorem decode_low (s : ByteArray) (pos : Nat) (h : pos < s.size) :
    (low s[pos] = true ∧ Utf8.decode s pos = (s[pos].toNat, 1) ∧ ltI (s[pos].toNat : Int) 97 = false ∧ ltI 122 (s[pos].toNat : Int) = false) ∨
    (low s[pos] = false ∧ (ltI ((Utf8.decode s pos).1 : Int) 97 || ltI 122 ((Utf8.decode s pos).1 : Int)) = true) := by
  by_cases ha : (s[pos]'h).toNat < 128
  · have e := decode_ascii s pos h ha
    by_cases hl : low s[pos] = true
    · have := hl
      simp only [low, Bool.not_eq_true', Bool.or_eq_false_iff] at this
      exact .inl ⟨hl, e, this.1, this.2⟩
    · have hl' : low s[pos] = false := by simpa using hl
      refine .inr ⟨hl', ?_⟩
      rw [e]
      unfold low at hl'
      simpa only [Bool.not_eq_false'] using hl'
  · have e := (decode_high s pos h (by omega)).1
    refine .inr ⟨?_, ?_⟩
    · unfold low ltI; simp; omega
    · unfold ltI; simp; omega

/-- impl.IsName -/
theorem isNameImpl_spec (s : ByteArray) : FSpec env.P 200 [.str s] (.bool (isName s)) := by
  refine FSpec_of_code env_ok (fn := Try.f200) Try.func200 rfl Try.call200 _ _ ?_
  ((repeat ((conv => whnf); first | refine brT ?_ | refine brF ?_)); conv => whnf)
  intro hs
  ((repeat ((conv => whnf); first | refine brT ?_ | refine brF ?_)); conv => whnf)
  (refine ⟨fun h => ?_, fun h => ?_⟩ <;> rw [h])
  · ((repeat ((conv => whnf); first | refine brT ?_ | refine brF ?_)); conv => whnf)
    refine fin ?_
    rw [eqI_t] at h
    have h0 : leI 1 (s.size : Int) = false := by rw [leI_f]; omega
    simp [isName, h0]
  rw [eqI_f] at h
  have h0 : leI 1 (s.size : Int) = true := by rw [leI_t]; omega
  ((repeat ((conv => whnf); first | refine brT ?_ | refine brF ?_)); conv => whnf)
  intro _
  ((repeat ((conv => whnf); first | refine brT ?_ | refine brF ?_)); conv => whnf)
  (refine ⟨fun h1 => ?_, fun h1 => ?_⟩ <;> rw [h1])
  · ((repeat ((conv => whnf); first | refine brT ?_ | refine brF ?_)); conv => whnf)
    refine fin ?_
    have h2 : leI (s.size : Int) 12 = false := by rw [leI_f]; rw [ltI_t] at h1; exact h1
    simp [isName, h2]
  have h2 : leI (s.size : Int) 12 = true := by rw [leI_t]; rw [ltI_f] at h1; exact h1
  ((repeat ((conv => whnf); first | refine brT ?_ | refine brF ?_)); conv => whnf)
  refine loop_rule (α := Nat) (fun k => []) (fun k => [.it s k]) (fun k => s.size - k) (fun k => k ≤ s.size ∧ lowTo s k) 0 ⟨Nat.zero_le _, fun _ _ h => absurd h (Nat.not_lt_zero _)⟩ ?_ ?_
  · refine ⟨?_, ⟨rfl, trivial⟩, rfl, rfl⟩
    ((repeat ((conv => whnf); refine ⟨rfl, ?_⟩)); trivial)
  rintro k ⟨hk, hlow⟩
  ((repeat ((conv => whnf); first | refine brT ?_ | refine brF ?_)); conv => whnf)
  refine ⟨fun hlt => ?_, fun hge => ?_⟩
  · rcases decode_low s k hlt with ⟨hl, hd, hd1, hd2⟩ | ⟨hl, hd⟩
    · rw [hd]
      ((repeat ((conv => whnf); first | refine brT ?_ | refine brF ?_)); conv => whnf)
      rw [hd1]
      ((repeat ((conv => whnf); first | refine brT ?_ | refine brF ?_)); conv => whnf)
      rw [hd2]
      ((repeat ((conv => whnf); first | refine brT ?_ | refine brF ?_)); conv => whnf)
      refine round_end (k + 1) ⟨hlt, hlow.succ hlt hl⟩ (by omega) ⟨?_, ⟨rfl, trivial⟩, rfl, rfl⟩
      ((repeat ((conv => whnf); refine ⟨rfl, ?_⟩)); trivial)
    · have hno : false = isName s := (isName_no hlt hl).symm
      generalize Utf8.decode s k = d at hd ⊢
      ((repeat ((conv => whnf); first | refine brT ?_ | refine brF ?_)); conv => whnf)
      (refine ⟨fun h3 => ?_, fun h3 => ?_⟩ <;> rw [h3])
      · ((repeat ((conv => whnf); first | refine brT ?_ | refine brF ?_)); conv => whnf); exact fin hno
      · ((repeat ((conv => whnf); first | refine brT ?_ | refine brF ?_)); conv => whnf)
        rw [h3, Bool.false_or] at hd
        rw [hd]
        ((repeat ((conv => whnf); first | refine brT ?_ | refine brF ?_)); conv => whnf); exact fin hno
  · ((repeat ((conv => whnf); first | refine brT ?_ | refine brF ?_)); conv => whnf)
    refine fin ?_
    rw [isName, hlow.all (by omega), h0, h2]
    rfl

/-- impl.isOfSex -/
def ofSex (ps : List Per) (x sex : Int) : Bool := leI 0 x && match ps[x.toNat]? with | some q => eqI q.sex sex | none => false
theorem isOfSex_spec (ps : List Per) (x sex : Int) : FSpec env.P 203 [.sl (ps.map Per.lv), .int .i64 x, .int .i64 sex] (.bool (ofSex ps x sex)) := by
  refine FSpec_of_code env_ok (fn := Try.f203) Try.func203 rfl Try.call203 _ _ ?_
  ((repeat ((conv => whnf); first | refine brT ?_ | refine brF ?_)); conv => whnf)
  (refine ⟨fun h => ?_, fun h => ?_⟩ <;> rw [h])
  · rw [leI_t] at h
    have h0 : leI 0 x = true := by rw [leI_t]; exact h
    ((repeat ((conv => whnf); first | refine brT ?_ | refine brF ?_)); conv => whnf)
    intro hl
    ((repeat ((conv => whnf); first | refine brT ?_ | refine brF ?_)); conv => whnf)
    (refine ⟨fun h1 => ?_, fun h1 => ?_⟩ <;> rw [h1])
    · have hlt : x.toNat < ps.length := by rw [ltI_t] at h1; simp at h1; omega
      have hg : ps[x.toNat]? = some ps[x.toNat] := List.getElem?_eq_getElem hlt
      ((repeat ((conv => whnf); first | refine brT ?_ | refine brF ?_)); conv => whnf)
      refine ⟨x.toNat, ps[x.toNat].lv, by omega, by simp [hlt], rfl, ?_⟩
      ((repeat ((conv => whnf); first | refine brT ?_ | refine brF ?_)); conv => whnf)
      refine fin ?_
      simp [ofSex, h0, hg]
    · ((repeat ((conv => whnf); first | refine brT ?_ | refine brF ?_)); conv => whnf)
      refine fin ?_
      have h3 : ps[x.toNat]? = none := by rw [List.getElem?_eq_none]; rw [ltI_f] at h1; simp at h1; omega
      simp [ofSex, h3]
  · rw [leI_f] at h
    have h0 : leI 0 x = false := by rw [leI_f]; exact h
    ((repeat ((conv => whnf); first | refine brT ?_ | refine brF ?_)); conv => whnf)
    refine fin ?_
    simp [ofSex, h0]

/-- impl.isUnited -/
def unitedOf (m f : Int) (u : Uni) : Bool := eqI u.husband m && eqI u.wife f
theorem isUnited1_spec (u : Uni) (m f : Int) : FSpec env.P 218 [u.lv, .ref (.int .i64 m), .ref (.int .i64 f)] (.bool (unitedOf m f u)) := by
  refine FSpec_of_code env_ok (fn := Try.f218) Try.func218 rfl Try.call218 _ _ ?_
  ((repeat' (((repeat ((conv => whnf); first | refine brT ?_ | refine brF ?_)); conv => whnf); (refine And.intro ?_ ?_ <;> (intro h; rw [h]; revert h; intro _)))); all_goals ((repeat ((conv => whnf); first | refine brT ?_ | refine brF ?_)); conv => whnf))
  · refine fin ?_; simp [unitedOf, *]
  · refine fin ?_; simp [unitedOf, *]

/-- The first place where it holds. -/
def idxFrom {α : Type} (q : α → Bool) : Nat → List α → Int
  | _, [] => -1
  | i, p :: ps => match q p with | true => (i : Int) | false => idxFrom q (i + 1) ps
theorem idxFrom_ge {α : Type} (q : α → Bool) : ∀ (i : Nat) (ps : List α), leI 0 (idxFrom q i ps) = ps.any q
  | _, [] => by simp [idxFrom, leI]
  | i, p :: ps => by
    simp only [idxFrom, List.any_cons]
    cases h : q p
    · simpa using idxFrom_ge q (i + 1) ps
    · simp [leI]

theorem indexFunc_spec (m f : Int) (us : List Uni) : FSpec env.P 224 [.sl (us.map Uni.lv), .clos 218 [.ref (.int .i64 m), .ref (.int .i64 f)]] (.int .i64 (idxFrom (unitedOf m f) 0 us)) := by
  refine FSpec_of_code env_ok (fn := Try.f224) Try.func224 rfl Try.call224 _ _ ?_
  ((repeat ((conv => whnf); first | refine brT ?_ | refine brF ?_)); conv => whnf)
  intro hp
  have hp' : us.length ≤ Go.maxLen := by simpa using hp
  ((repeat ((conv => whnf); first | refine brT ?_ | refine brF ?_)); conv => whnf)
  refine loop_rule (α := Nat) (fun k => [(8, .int .i64 (k : Int))]) (fun k => []) (fun k => us.length - k) (fun k => k ≤ us.length ∧ idxFrom (unitedOf m f) k (us.drop k) = idxFrom (unitedOf m f) 0 us) 0 ⟨Nat.zero_le _, rfl⟩ ?_ ?_
  · refine ⟨?_, trivial, rfl, rfl⟩
    ((repeat ((conv => whnf); refine ⟨rfl, ?_⟩)); trivial)
  rintro k ⟨hk, hf⟩
  ((repeat ((conv => whnf); first | refine brT ?_ | refine brF ?_)); conv => whnf)
  (refine ⟨fun h1 => ?_, fun h1 => ?_⟩ <;> rw [h1])
  · have hlt : k < us.length := by rw [ltI_t] at h1; simp at h1; omega
    rw [List.drop_eq_getElem_cons hlt] at hf
    simp only [idxFrom] at hf
    ((repeat ((conv => whnf); first | refine brT ?_ | refine brF ?_)); conv => whnf)
    refine ⟨k, us[k].lv, rfl, by simp [hlt], rfl, ?_⟩
    ((repeat ((conv => whnf); first | refine brT ?_ | refine brF ?_)); conv => whnf)
    refine ⟨_, isUnited1_spec us[k] m f, ?_⟩
    ((repeat ((conv => whnf); first | refine brT ?_ | refine brF ?_)); conv => whnf)
    (refine ⟨fun h2 => ?_, fun h2 => ?_⟩ <;> rw [h2])
    · rw [h2] at hf
      ((repeat ((conv => whnf); first | refine brT ?_ | refine brF ?_)); conv => whnf)
      exact ⟨rfl, by rw [← hf], List.nodup_nil⟩
    · rw [h2] at hf
      ((repeat ((conv => whnf); first | refine brT ?_ | refine brF ?_)); conv => whnf)
      refine round_end (k + 1) ⟨hlt, hf⟩ (by omega) ⟨?_, trivial, rfl, rfl⟩
      have e := step_i hlt hp'
      ((repeat ((conv => whnf); first | refine ⟨e, ?_⟩ | refine ⟨rfl, ?_⟩)); trivial)
  · have h3 : us.length ≤ k := by rw [ltI_f] at h1; simp at h1; omega
    rw [List.drop_eq_nil_of_le h3] at hf
    ((repeat ((conv => whnf); first | refine brT ?_ | refine brF ?_)); conv => whnf)
    exact ⟨rfl, by rw [← hf]; rfl, List.nodup_nil⟩

theorem containsFunc_spec (m f : Int) (us : List Uni) : FSpec env.P 217 [.sl (us.map Uni.lv), .clos 218 [.ref (.int .i64 m), .ref (.int .i64 f)]] (.bool (us.any (unitedOf m f))) := by
  refine FSpec_of_code env_ok (fn := Try.f217) Try.func217 rfl Try.call217 _ _ ?_
  ((repeat ((conv => whnf); first | refine brT ?_ | refine brF ?_)); conv => whnf)
  refine ⟨_, indexFunc_spec m f us, ?_⟩
  ((repeat ((conv => whnf); first | refine brT ?_ | refine brF ?_)); conv => whnf)
  exact fin (idxFrom_ge _ _ _)

theorem isUnited_spec (us : List Uni) (m f : Int) : FSpec env.P 204 [.sl (us.map Uni.lv), .int .i64 m, .int .i64 f] (.bool (us.any (unitedOf m f))) := by
  refine FSpec_of_code env_ok (fn := Try.f204) Try.func204 rfl Try.call204 _ _ ?_
  ((repeat ((conv => whnf); first | refine brT ?_ | refine brF ?_)); conv => whnf)
  refine ⟨_, containsFunc_spec m f us, ?_⟩
  ((repeat ((conv => whnf); first | refine brT ?_ | refine brF ?_)); conv => whnf)
  exact fin rfl

/-- impl.knownParents -/
def notNone (x : Int) : Bool := notB (eqI x (-1))
def known (p : Per) : List Int := [p.father, p.mother].filter notNone
def intLV (n : Int) : LV := .int .i64 n
def knownTo (p : Per) (k : Nat) : List Int := ([p.father, p.mother].take k).filter notNone
theorem knownTo_succ (p : Per) (k : Nat) (h : k < 2) : knownTo p (k + 1) = knownTo p k ++ (if notNone ([p.father, p.mother][k]'h) then [[p.father, p.mother][k]'h] else []) := by
  unfold knownTo
  rw [List.take_succ_eq_append_getElem h, List.filter_append]
  congr 1
  simp [List.filter]
  split <;> simp_all
theorem knownTo_len (p : Per) (k : Nat) : (knownTo p k).length ≤ 2 := by
  unfold knownTo
  refine Nat.le_trans (List.length_filter_le _ _) ?_
  simp; omega
theorem knownParents_spec (p : Per) : FSpec env.P 104 [p.lv] (.own 3 1 ((known p).map intLV)) := by
  refine FSpec_of_code env_ok (fn := Try.f104) Try.func104 rfl Try.call104 _ _ ?_
  ((repeat ((conv => whnf); first | refine brT ?_ | refine brF ?_)); conv => whnf)
  refine ⟨rfl, fun _ => ?_⟩
  ((repeat ((conv => whnf); first | refine brT ?_ | refine brF ?_)); conv => whnf)
  refine loop_ruleR (α := Nat) [.old 0, .old 1, .nil 3 1] (fun k => [(12, .int .i64 (k : Int)), (3, .hs 2 ((knownTo p k).map intLV).length)]) (fun k => [.box p.lv, .arr 3 1 [.int .i64 p.father, .int .i64 p.mother], .arr 3 1 ((knownTo p k).map intLV)])
    (fun k => 2 - k) (fun k => k ≤ 2) 0 (by omega) ?_ ?_
  · refine ⟨?_, ⟨rfl, rfl, rfl, rfl, rfl, rfl, trivial⟩, rfl⟩
    ((repeat ((conv => whnf); refine ⟨rfl, rfl, ?_⟩)); trivial)
  intro k hk
  ((repeat ((conv => whnf); first | refine brT ?_ | refine brF ?_)); conv => whnf)
  have hn := knownTo_len p k
  have hn1 := knownTo_len p (k + 1)
  (refine ⟨fun h1 => ?_, fun h1 => ?_⟩ <;> rw [h1])
  · have hlt : k < 2 := by rw [ltI_t] at h1; simp at h1; omega
    have hs := knownTo_succ p k hlt
    ((repeat ((conv => whnf); first | refine brT ?_ | refine brF ?_)); conv => whnf)
    refine ⟨rfl, by decide, k, rfl, hlt, ?_⟩
    ((repeat ((conv => whnf); first | refine brT ?_ | refine brF ?_)); conv => whnf)
    refine ⟨rfl, by simp, .int .i64 ([p.father, p.mother][k]'hlt), ?_, rfl, ?_⟩
    · match k, hlt with
      | 0, _ => rfl
      | 1, _ => rfl
    ((repeat ((conv => whnf); first | refine brT ?_ | refine brF ?_)); conv => whnf)
    have e : LV.int .i64 (IntKind.i64.wrap ((k : Int) + 1)) = LV.int .i64 ((k + 1 : Nat) : Int) := step_i hlt (by decide)
    (refine ⟨fun h2 => ?_, fun h2 => ?_⟩ <;> rw [h2])
    · rw [show notNone ([p.father, p.mother][k]'hlt) = true from h2, if_pos rfl] at hs
      have e2 : ((knownTo p k).map intLV ++ [LV.int .i64 ([p.father, p.mother][k]'hlt)]) = (knownTo p (k + 1)).map intLV := by rw [hs, List.map_append]; rfl
      have e3 : LV.hs 2 ((knownTo p k).map intLV ++ [LV.int .i64 ([p.father, p.mother][k]'hlt)]).length = LV.hs 2 ((knownTo p (k + 1)).map intLV).length := by rw [e2]
      ((repeat ((conv => whnf); first | refine brT ?_ | refine brF ?_)); conv => whnf)
      refine ⟨rfl, rfl, ?_, ?_, ?_⟩
      · rw [e2]; unfold Go.maxLen; simp; omega
      · rw [e2]; simp; omega
      ((repeat ((conv => whnf); first | refine brT ?_ | refine brF ?_)); conv => whnf)
      refine round_endR [.old 0, .old 1, .old 4] (k + 1) hlt (by omega) ⟨?_, ⟨rfl, rfl, rfl, rfl, rfl, congrArg (Blk.arr 3 1) e2, trivial⟩, rfl⟩
      repeat ((conv => whnf); first | refine ⟨rfl, e, ?_⟩ | refine ⟨rfl, e3, ?_⟩ | refine ⟨rfl, rfl, ?_⟩)
      trivial
    · rw [show notNone ([p.father, p.mother][k]'hlt) = false from h2, if_neg (by decide), List.append_nil] at hs
      have e2 : (knownTo p k).map intLV = (knownTo p (k + 1)).map intLV := by rw [hs]
      have e3 : LV.hs 2 ((knownTo p k).map intLV).length = LV.hs 2 ((knownTo p (k + 1)).map intLV).length := by rw [e2]
      ((repeat ((conv => whnf); first | refine brT ?_ | refine brF ?_)); conv => whnf)
      refine round_end (k + 1) hlt (by omega) ⟨?_, ⟨rfl, rfl, congrArg (Blk.arr 3 1) e2, trivial⟩, rfl, rfl⟩
      repeat ((conv => whnf); first | refine ⟨e, ?_⟩ | refine ⟨e3, ?_⟩ | refine ⟨rfl, ?_⟩)
      trivial
  · have h3 : k = 2 := by rw [ltI_f] at h1; simp at h1; omega
    subst h3
    ((repeat ((conv => whnf); first | refine brT ?_ | refine brF ?_)); conv => whnf)
    exact ⟨rfl, rfl, rfl, rfl, by simp⟩
end Go.Proofs.Ytfdjeflnjciloaa
