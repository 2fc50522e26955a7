/- Places inside a block: what a path reads, and what turns when a place is written. -/
import Derived.Test.YtbiagkccgijdlaaGreatALgC
namespace Go.Lg
variable [GI]
set_option linter.unusedSectionVars false
set_option linter.unusedVariables false
set_option linter.unusedSimpArgs false
open Go.RowKit

theorem RC_st {ρ : Ctx} {fs : List LV} {es : List Value} : RC ρ (.st fs) es ↔ RCs ρ fs es := by simp only [RC]

theorem getP_off {ρ : Ctx} : ∀ (path : List Nat) (c x : LV) (es : List Value), RC ρ c es → getP c path = some x →
    ∃ pre d post, es = pre ++ d ++ post ∧ offP c path = some pre.length ∧ RC ρ x d
  | [], c, x, es, h, hg => by
    have e : c = x := by cases c <;> simpa [getP] using hg
    subst e
    exact ⟨[], es, [], by simp, by cases c <;> rfl, h⟩
  | f :: p, c, x, es, h, hg => by
    cases c <;> simp only [getP] at hg <;> try cases hg
    rename_i fs
    cases hf : fs[f]? with
    | none => rw [hf] at hg; cases hg
    | some y =>
      rw [hf] at hg
      rw [RC_st] at h
      obtain ⟨c1, d, c2, rfl, h1, h2, h3, h4⟩ := RCs.get h hf
      obtain ⟨pre, d', post, rfl, h5, h6⟩ := getP_off p y x d h2 hg
      refine ⟨c1 ++ pre, d', post ++ c2, by simp, ?_, h6⟩
      simp only [offP, hf, h5, Option.map_some, List.length_append, h4]

mutual
def same : LV → LV → Bool
  | .st fs, .st gs => sames fs gs
  | .st _, _ => false
  | _, .st _ => false
  | _, _ => true
def sames : List LV → List LV → Bool
  | [], [] => true
  | x :: xs, y :: ys => same x y && sames xs ys
  | _, _ => false
end

mutual
theorem same_size : ∀ (x y : LV), same x y = true → y.size = x.size
  | .st fs, y, h => by
    cases y <;> simp only [same] at h <;> try cases h
    simp only [LV.size]
    exact sames_size _ _ h
  | .undef, y, h => by cases y <;> first | rfl | (simp [same] at h)
  | .int _ _, y, h => by cases y <;> first | rfl | (simp [same] at h)
  | .bool _, y, h => by cases y <;> first | rfl | (simp [same] at h)
  | .lit _, y, h => by cases y <;> first | rfl | (simp [same] at h)
  | .str _, y, h => by cases y <;> first | rfl | (simp [same] at h)
  | .nil, y, h => by cases y <;> first | rfl | (simp [same] at h)
  | .sl _, y, h => by cases y <;> first | rfl | (simp [same] at h)
  | .own _ _ _, y, h => by cases y <;> first | rfl | (simp [same] at h)
  | .tup _, y, h => by cases y <;> first | rfl | (simp [same] at h)
  | .ref _, y, h => by cases y <;> first | rfl | (simp [same] at h)
  | .clos _ _, y, h => by cases y <;> first | rfl | (simp [same] at h)
  | .ifc _ _, y, h => by cases y <;> first | rfl | (simp [same] at h)
  | .hs _ _, y, h => by cases y <;> first | rfl | (simp [same] at h)
  | .hp _ _ _, y, h => by cases y <;> first | rfl | (simp [same] at h)
theorem sames_size : ∀ (xs ys : List LV), sames xs ys = true → LV.sizes ys = LV.sizes xs
  | [], [], _ => rfl
  | [], _ :: _, h => by simp [sames] at h
  | _ :: _, [], h => by simp [sames] at h
  | x :: xs, y :: ys, h => by
    simp only [sames, Bool.and_eq_true] at h
    simp only [LV.sizes, same_size x y h.1, sames_size xs ys h.2]
end

theorem sames_take : ∀ (xs ys : List LV) (i : Nat), sames xs ys = true → sames (xs.take i) (ys.take i) = true
  | [], [], i, _ => by simp [sames]
  | [], _ :: _, _, h => by simp [sames] at h
  | _ :: _, [], _, h => by simp [sames] at h
  | x :: xs, y :: ys, 0, _ => by simp [sames]
  | x :: xs, y :: ys, i + 1, h => by
    simp only [sames, Bool.and_eq_true] at h
    simp only [List.take_succ_cons, sames, Bool.and_eq_true]
    exact ⟨h.1, sames_take xs ys i h.2⟩

theorem sames_get : ∀ (xs ys : List LV) (i : Nat) (y : LV), sames xs ys = true → ys[i]? = some y → ∃ x, xs[i]? = some x ∧ same x y = true
  | [], [], i, y, _, h => by simp at h
  | [], _ :: _, _, _, h, _ => by simp [sames] at h
  | _ :: _, [], _, _, h, _ => by simp [sames] at h
  | x :: xs, y :: ys, 0, z, h, k => by
    simp only [sames, Bool.and_eq_true] at h
    simp at k; subst k
    exact ⟨x, by simp, h.1⟩
  | x :: xs, y :: ys, i + 1, z, h, k => by
    simp only [sames, Bool.and_eq_true] at h
    simpa using sames_get xs ys i z h.2 (by simpa using k)

theorem same_off : ∀ (q : List Nat) (x y : LV) (o : Nat), same x y = true → offP y q = some o → offP x q = some o
  | [], x, y, o, _, h => by cases x <;> cases y <;> simpa [offP] using h
  | f :: p, x, y, o, hs, h => by
    cases y <;> simp only [offP] at h <;> try cases h
    rename_i gs
    cases x <;> simp only [same] at hs <;> try cases hs
    rename_i fs
    cases hf : gs[f]? with
    | none => rw [hf] at h; cases h
    | some z =>
      rw [hf] at h
      obtain ⟨u, hu, hsu⟩ := sames_get _ _ _ _ hs hf
      simp only [Option.map_eq_some_iff] at h
      obtain ⟨o', ho', rfl⟩ := h
      simp only [offP, hu, same_off p u z o' hsu ho', Option.map_some, sames_size _ _ (sames_take _ _ f hs)]

mutual
theorem same_refl : ∀ (x : LV), same x x = true
  | .st fs => by simp only [same]; exact sames_refl fs
  | .undef => rfl
  | .int _ _ => rfl
  | .bool _ => rfl
  | .lit _ => rfl
  | .str _ => rfl
  | .nil => rfl
  | .sl _ => rfl
  | .own _ _ _ => rfl
  | .tup _ => rfl
  | .ref _ => rfl
  | .clos _ _ => rfl
  | .ifc _ _ => rfl
  | .hs _ _ => rfl
  | .hp _ _ _ => rfl
theorem sames_refl : ∀ (xs : List LV), sames xs xs = true
  | [] => rfl
  | x :: xs => by simp only [sames, same_refl x, sames_refl xs, Bool.and_self]
end

theorem sames_set : ∀ (fs : List LV) (f : Nat) (x y : LV), fs[f]? = some x → same x y = true → sames fs (fs.set f y) = true
  | [], _, _, _, h, _ => by simp at h
  | z :: fs, 0, x, y, h, k => by
    simp at h; subst h
    simp only [List.set_cons_zero, sames, k, sames_refl, Bool.and_self]
  | z :: fs, f + 1, x, y, h, k => by
    simp only [List.set_cons_succ, sames, same_refl, Bool.true_and]
    exact sames_set fs f x y (by simpa using h) k

theorem setP_same : ∀ (path : List Nat) (c x y : LV), getP c path = some x → same x y = true → same c (setP c path y) = true
  | [], c, x, y, h, k => by
    have e : c = x := by cases c <;> simpa [getP] using h
    subst e
    cases c <;> exact k
  | f :: p, c, x, y, h, k => by
    cases c <;> simp only [getP] at h <;> try cases h
    rename_i fs
    cases hf : fs[f]? with
    | none => rw [hf] at h; cases h
    | some z =>
      rw [hf] at h
      have e : setP (.st fs) (f :: p) y = .st (fs.set f (setP z p y)) := by simp only [setP, hf]
      rw [e]
      have := sames_set fs f z _ hf (setP_same p z x y h k)
      simpa only [same] using this

theorem RCs_set {ρ : Ctx} : ∀ (fs : List LV) (f : Nat) (z y : LV) (c1 c2 d' : List Value), fs[f]? = some z → RCs ρ (fs.take f) c1 → RCs ρ (fs.drop (f + 1)) c2 → RC ρ y d' →
    RCs ρ (fs.set f y) (c1 ++ d' ++ c2)
  | [], _, _, _, _, _, _, h, _, _, _ => by simp at h
  | x :: fs, 0, z, y, c1, c2, d', h, h1, h2, h3 => by
    simp only [List.take_zero, RCs] at h1
    subst h1
    simp only [List.set_cons_zero, RCs]
    exact ⟨d', c2, by simp, h3, by simpa using h2⟩
  | x :: fs, f + 1, z, y, c1, c2, d', h, h1, h2, h3 => by
    simp only [List.take_succ_cons, RCs] at h1
    obtain ⟨a, b, rfl, h4, h5⟩ := h1
    simp only [List.set_cons_succ, RCs]
    exact ⟨a, b ++ d' ++ c2, by simp, h4, RCs_set fs f z y b c2 d' (by simpa using h) h5 (by simpa using h2) h3⟩

theorem setP_off {ρ : Ctx} : ∀ (path : List Nat) (c x y : LV) (es d' : List Value), RC ρ c es → getP c path = some x → RC ρ y d' → d'.length = x.size →
    ∃ pre d post, es = pre ++ d ++ post ∧ d.length = d'.length ∧ offP c path = some pre.length ∧ RC ρ (setP c path y) (pre ++ d' ++ post)
  | [], c, x, y, es, d', h, hg, hy, hl => by
    have e : c = x := by cases c <;> simpa [getP] using hg
    subst e
    refine ⟨[], es, [], by simp, by rw [hl]; exact RC.len _ _ h, by cases c <;> rfl, ?_⟩
    have : setP c [] y = y := by cases c <;> rfl
    rw [this]
    simpa using hy
  | f :: p, c, x, y, es, d', h, hg, hy, hl => by
    cases c <;> simp only [getP] at hg <;> try cases hg
    rename_i fs
    cases hf : fs[f]? with
    | none => rw [hf] at hg; cases hg
    | some z =>
      rw [hf] at hg
      rw [RC_st] at h
      obtain ⟨c1, d, c2, rfl, h1, h2, h3, h4⟩ := RCs.get h hf
      obtain ⟨pre, e, post, rfl, h5, h6, h7⟩ := setP_off p z x y d d' h2 hg hy hl
      refine ⟨c1 ++ pre, e, post ++ c2, by simp, h5, ?_, ?_⟩
      · simp only [offP, hf, h6, Option.map_some, List.length_append, h4]
      · simp only [setP, hf]
        rw [RC_st]
        have := RCs_set fs f z (setP z p y) c1 c2 (pre ++ d' ++ post) hf h1 h3 h7
        simpa using this

end Go.Lg

