/- Contracts of functions of the program and of its model, told over readings. -/
import Derived.Test.YtfdjeflnjciloaaBB2
namespace Go.Proofs.Ytfdjeflnjciloaa
open Go.Lg
set_option maxHeartbeats 1600000
set_option maxRecDepth 10000
set_option linter.unusedVariables false
set_option linter.unusedSimpArgs false

/-- The rows of what is related among n numbers. -/
def relRows (n : Nat) (P : Nat → Nat → Bool) : List (List Int) := (List.range n).map fun a => List.map (fun i : Nat => (i : Int)) (List.filter (fun b : Nat => P a b) (List.range n))
theorem relRows_len (n : Nat) (P : Nat → Nat → Bool) : (relRows n P).length = n := by simp [relRows]

theorem listTo_cut {s n : Nat} (h : ∀ i, n ≤ i → i < 40 → s.testBit i = false) (hn : n ≤ 40) : listN s = listTo s n := by
  have key : ∀ m, n ≤ m → m ≤ 40 → listTo s m = listTo s n := by
    intro m
    induction m with
    | zero => intro h1 _; have : n = 0 := by omega
              subst this; rfl
    | succ m ih =>
      intro h1 h2
      by_cases e : n = m + 1
      · subst e; rfl
      · rw [listTo_succ, ih (by omega) (by omega)]
        have : hasN s (m : Int) = false := by unfold hasN; simpa using h m (by omega) (by omega)
        rw [this]; simp
  exact key 40 hn (Nat.le_refl _)

/-- Sets of numbers, as rows. -/
theorem rows_of_sets {ss : List Nat} {n : Nat} {P : Nat → Nat → Bool} (hl : ss.length = n) (hn : n ≤ 40) (h : ∀ (a : Nat) (ha : a < ss.length) (b : Nat), b < 40 → ss[a].testBit b = (decide (b < n) && P a b)) :
    ss.map listN = relRows n P := by
  apply List.ext_getElem
  · simp [relRows, hl]
  · intro a h1 h2
    have ha : a < ss.length := by simpa using h1
    simp only [List.getElem_map, relRows, List.getElem_range]
    rw [listTo_cut (n := n) (fun i hi hi40 => by rw [h a ha i hi40]; simp; omega) hn]
    unfold listTo
    congr 1
    apply List.filter_congr
    intro b hb
    have hb : b < n := by simpa using hb
    rw [h a ha b (by omega)]; simp [hb]

theorem setsOf_h (n : Int) (rows : List (List Int)) (hr : ∀ r ∈ rows, inSize r ∧ r.length ≤ Go.maxLen) (hb : 8 * rows.length ≤ 281474976710656) :
    HSpec env.P 110 [relLV n rows] [] (.hs 0 (rows.map fun r => uLV (setN r)).length) [.arr 100 1 (rows.map fun r => uLV (setN r))] := by
  refine HSpec_of_code (E := env.x [112] 0) env_ok.x (fn := Try.f110) Try.func110 rfl Try.call110 _ _ _ _ ?_
  ((repeat ((conv => whnf); first | refine brT ?_ | refine brF ?_)); conv => whnf)
  refine ⟨[], _, _, _, _, mapSets_h rows hr hb, rfl, rfl, rfl, trivial, ?_⟩
  ((repeat ((conv => whnf); first | refine brT ?_ | refine brF ?_)); conv => whnf)
  exact ⟨[.hs 0 (rows.map fun r => uLV (setN r)).length], rfl, rfl, .inr ⟨[.old 1], ⟨rfl, rfl, trivial⟩, ⟨rfl, rfl, trivial⟩, rfl⟩⟩

theorem flatTs_rows : ∀ rows : List (List Int), flatTs (rows.map rowOw) = true
  | [] => rfl
  | r :: rs => by simp only [List.map_cons, flatTs, Bool.and_eq_true]; exact ⟨by simp only [rowOw, flatT1]; exact flats_ints r, flatTs_rows rs⟩

theorem relationOfSets_h (ss : List Nat) (hs : ∀ s ∈ ss, s < 2 ^ 64) (hb : 24 * ss.length ≤ 281474976710656) (hm : ss.length ≤ Go.maxLen) :
    HSpec env.P 111 [.sl (ss.map uLV)] [] (relHS ss.length 0 ((ss.map listN).map rowOw).length) [.tree 29 1 ((ss.map listN).map rowOw)] := by
  refine HSpec_of_code (E := env.x [172] 0) env_ok.x (fn := Try.f111) Try.func111 rfl Try.call111 _ _ _ _ ?_
  ((repeat ((conv => whnf); first | refine brT ?_ | refine brF ?_)); conv => whnf)
  refine ⟨[], _, _, _, _, mapLists_h ss hs hb, rfl, rfl, rfl, trivial, ?_⟩
  ((repeat ((conv => whnf); first | refine brT ?_ | refine brF ?_)); conv => whnf)
  intro _
  ((repeat ((conv => whnf); first | refine brT ?_ | refine brF ?_)); conv => whnf)
  refine ⟨[relHS ss.length 0 ((ss.map listN).map rowOw).length], rfl, rfl, .inr ⟨[.old 1], ?_, ?_, rfl⟩⟩
  · have e : LV.st [LV.int .i64 ((ss.map uLV).length : Int), LV.hs 0 (ss.map fun s => rowOw (listN s)).length] = relHS ss.length 0 ((ss.map listN).map rowOw).length := by simp [relHS]
    exact ⟨rfl, e, trivial⟩
  · exact ⟨rfl, congrArg (Blk.tree 29 1) (by rw [List.map_map]; rfl), trivial⟩

/-- Both valid, of one size. -/
def alike (n : Int) (rows : List (List Int)) (m : Int) (rows' : List (List Int)) : Bool := eqI n m && relOk n rows && relOk m rows'
theorem areAlike_spec (n : Int) (rows : List (List Int)) (m : Int) (rows' : List (List Int)) : FSpec env.P 109 [relLV n rows, relLV m rows'] (.bool (alike n rows m rows')) := by
  refine FSpec_of_code env_ok (fn := Try.f109) Try.func109 rfl Try.call109 _ _ ?_
  ((repeat' (((repeat ((conv => whnf); first | refine brT ?_ | refine brF ?_)); conv => whnf); first | (refine And.intro ?_ ?_ <;> (intro h; rw [h]; revert h; intro _)) | (refine And.intro (a := drawB _ _ = true) (by kernel_rfl) ?_) | (refine Exists.intro _ (And.intro (isRelation_impl n rows) ?_)) | (refine Exists.intro _ (And.intro (isRelation_impl m rows') ?_)))); all_goals ((repeat ((conv => whnf); first | refine brT ?_ | refine brF ?_)); conv => whnf))
  all_goals (refine fin ?_; simp_all [alike])
theorem l2Both_spec (n : Int) (rows : List (List Int)) (m : Int) (rows' : List (List Int)) : FSpec env.P 117 [relLV n rows, relLV m rows'] (.bool (alike n rows m rows')) := by
  refine FSpec_of_code env_ok (fn := Try.f117) Try.func117 rfl Try.call117 _ _ ?_
  ((repeat' (((repeat ((conv => whnf); first | refine brT ?_ | refine brF ?_)); conv => whnf); first | (refine And.intro ?_ ?_ <;> (intro h; rw [h]; revert h; intro _)) | (refine And.intro (a := drawB _ _ = true) (by kernel_rfl) ?_) | (refine Exists.intro _ (And.intro (isRelation_spec n rows) ?_)) | (refine Exists.intro _ (And.intro (isRelation_spec m rows') ?_)))); all_goals ((repeat ((conv => whnf); first | refine brT ?_ | refine brF ?_)); conv => whnf))
  all_goals (refine fin ?_; simp_all [alike])

/-! ### The model's tables -/
def bLV (b : Bool) : LV := .bool b
def lineOw (l : List Bool) : LV := .own 4 1 (l.map bLV)
def lineSl (l : List Bool) : LV := .sl (l.map bLV)
theorem dms_lines : ∀ g : List (List Bool), dms (g.map lineOw) = g.map lineSl
  | [] => rfl
  | r :: rs => by simp only [List.map_cons, dms, dms_lines rs]; rfl
def blank (n k : Nat) : List (List Bool) := List.replicate k (List.replicate n false)

theorem l2Blank_h (n : Nat) (hn : n ≤ 40) : HSpec env.P 155 [.int .i64 (n : Int)] [] (.hs 0 ((blank n n).map lineOw).length) [.tree 139 1 ((blank n n).map lineOw)] := by
  refine HSpec_of_code (E := env.x [] 0) env_ok.x (fn := Try.f155) Try.func155 rfl Try.call155 _ _ _ _ ?_
  ((repeat ((conv => whnf); first | refine brT ?_ | refine brF ?_)); conv => whnf)
  refine loop_ruleR (α := Nat) [.old 0] (fun k => [(5, .undef), (4, .int .i64 (k : Int)), (3, .hs 0 ((blank n k).map lineOw).length)]) (fun k => [.tree 139 1 ((blank n k).map lineOw)]) (fun k => n - k) (fun k => k ≤ n) 0 (Nat.zero_le _) ?_ ?_
  · refine ⟨?_, ⟨rfl, rfl, trivial⟩, rfl⟩
    ((repeat ((conv => whnf); refine ⟨rfl, rfl, ?_⟩)); trivial)
  intro k hk
  ((repeat ((conv => whnf); first | refine brT ?_ | refine brF ?_)); conv => whnf)
  (refine ⟨fun h1 => ?_, fun h1 => ?_⟩ <;> rw [h1])
  · have hlt : k < n := by rw [ltI_t] at h1; omega
    have e : LV.int .i64 (IntKind.i64.wrap ((k : Int) + 1)) = LV.int .i64 ((k + 1 : Nat) : Int) := step_i (n := 40) (by omega) (by decide)
    have e2 : (blank n k).map lineOw ++ [LV.own 4 1 (List.replicate n (.bool false))] = (blank n (k + 1)).map lineOw := by
      unfold blank
      rw [List.replicate_succ', List.map_append]
      simp [lineOw, bLV]
    have e3 : LV.hs 0 ((blank n k).map lineOw ++ [LV.own 4 1 (List.replicate n (.bool false))]).length = LV.hs 0 ((blank n (k + 1)).map lineOw).length := by rw [e2]
    ((repeat ((conv => whnf); first | refine brT ?_ | refine brF ?_)); conv => whnf)
    refine ⟨n, rfl, rfl, by show 1 * n ≤ _; omega, by unfold Go.maxLen; omega, rfl, by decide, ?_⟩
    ((repeat ((conv => whnf); first | refine brT ?_ | refine brF ?_)); conv => whnf)
    refine ⟨by simp, ?_⟩
    ((repeat ((conv => whnf); first | refine brT ?_ | refine brF ?_)); conv => whnf)
    refine ⟨rfl, ?_⟩
    ((repeat ((conv => whnf); first | refine brT ?_ | refine brF ?_)); conv => whnf)
    refine ⟨rfl, by show (_ ++ [LV.own 4 1 _]).length ≤ _; rw [e2]; unfold Go.maxLen; simp [blank]; omega, by show (_ ++ [LV.own 4 1 _]).length * 24 ≤ _; rw [e2]; simp [blank]; omega, ?_⟩
    ((repeat ((conv => whnf); first | refine brT ?_ | refine brF ?_)); conv => whnf)
    refine round_endR [.old 3] (k + 1) hlt (by omega) ⟨?_, ⟨rfl, congrArg (Blk.tree 139 1) e2, trivial⟩, rfl⟩
    repeat ((conv => whnf); first | refine ⟨rfl, e, ?_⟩ | refine ⟨rfl, e3, ?_⟩ | refine ⟨rfl, rfl, ?_⟩)
    trivial
  · have h3 : k = n := by rw [ltI_f] at h1; omega
    subst h3
    ((repeat ((conv => whnf); first | refine brT ?_ | refine brF ?_)); conv => whnf)
    exact ⟨[.hs 0 ((blank k k).map lineOw).length], rfl, rfl, .inl ⟨⟨rfl, trivial⟩, ⟨rfl, trivial⟩, rfl, rfl⟩⟩

end Go.Proofs.Ytfdjeflnjciloaa
