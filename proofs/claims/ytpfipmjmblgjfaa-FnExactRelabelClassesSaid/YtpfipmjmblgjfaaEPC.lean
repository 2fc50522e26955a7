/- Contracts of functions of the program and of its model, told over readings. -/
import Derived.Test.YtpfipmjmblgjfaaEPB
import Derived.Test.YtpfipmjmblgjfaaELgWS
namespace Go.Proofs.Ytpfipmjmblgjfaa
open Go.Lg
set_option maxHeartbeats 1600000
set_option maxRecDepth 10000
set_option linter.unusedVariables false
set_option linter.unusedSimpArgs false

/-! ### Wrappers of the model -/
/-- A relation made, handed out with its rows frozen. -/
theorem rel_f {F : Nat} {args : List LV} {N : Nat} {R : List (List Int)} (h : HSpec env.P F args [] (relHS N 0 (R.map rowOw).length) [.tree 22 1 (R.map rowOw)]) : FSpec env.P F args (.st [.int .i64 (N : Int), .own 22 1 (R.map rowSl)]) :=
  FSpec_of_tree h (by
    simp only [relHS, exW, exsW]
    exact ⟨trivial, trivial, by rw [dms_rows]; simp, rfl, rfl, dms_rows _, by simp⟩)

/-! ### Equality -/
/-- Whether two valid relations of one size are equal. -/
def relEq (n : Int) (rows : List (List Int)) (m : Int) (rows' : List (List Int)) : Bool := alike n rows m rows' && decide (rows = rows')

def eqU (a b : Nat) : Bool := eqI (a : Int) (b : Int)
theorem eqU_t {a b : Nat} : eqU a b = true ↔ a = b := by unfold eqU; rw [eqI_t]; omega
theorem eqList_iff {α : Type} {f : α → α → Bool} (hf : ∀ a b, f a b = true ↔ a = b) : ∀ (ps qs : List α), eqList f ps qs = true ↔ ps = qs
  | [], [] => by simp [eqList]
  | [], _ :: _ => by simp [eqList]
  | _ :: _, [] => by simp [eqList]
  | x :: xs, y :: ys => by
    simp only [eqList, Bool.and_eq_true, hf, eqList_iff hf xs ys, List.cons.injEq]
theorem sets_eq {n : Int} {rows rows' : List (List Int)} (hr : RelIn n rows) (hs : RelIn n rows') (hl : rows'.length = rows.length) :
    eqList eqU (setsP rows.length (relP rows)) (setsP rows.length (relP rows')) = decide (rows = rows') := by
  rw [Bool.eq_iff_iff, eqList_iff (fun a b => eqU_t), decide_eq_true_eq]
  constructor
  · intro h
    have e1 := setsP_rows (n := rows.length) (P := relP rows) hr.size
    have e2 := setsP_rows (n := rows.length) (P := relP rows') hr.size
    have h1 : RelIn (rows.length : Int) rows := by have := hr.len; rw [this]; exact hr
    have h2 : RelIn (rows.length : Int) rows' := by have := hr.len; rw [this]; exact hs
    rw [rows_eq h1, rows_eq h2, ← e1, ← e2, h]
  · rintro rfl; rfl
theorem grid_eq {n : Int} {rows rows' : List (List Int)} (hr : RelIn n rows) (hs : RelIn n rows') (hl : rows'.length = rows.length) :
    decide (∀ a, a < rows.length → ∀ b, b < rows.length → relP rows a b = relP rows' a b) = decide (rows = rows') := by
  rw [decide_eq_decide]
  constructor
  · intro h
    have h1 : RelIn (rows.length : Int) rows := by have := hr.len; rw [this]; exact hr
    have h2 : RelIn (rows.length : Int) rows' := by have := hr.len; rw [this]; exact hs
    rw [rows_eq h1, rows_eq h2, relRows_ext h]
  · rintro rfl; exact fun _ _ _ _ => rfl
end Go.Proofs.Ytpfipmjmblgjfaa
namespace Go.Proofs.Ytpfipmjmblgjfaa
open Go.Lg
set_option maxHeartbeats 1600000
set_option maxRecDepth 10000
set_option linter.unusedVariables false
set_option linter.unusedSimpArgs false

theorem flats_prs : ∀ xs : List Pr, flatsB (xs.map Pr.lv) = true
  | [] => rfl
  | x :: xs => by simp [flatsB, flatB, Pr.lv]; exact flats_prs xs

end Go.Proofs.Ytpfipmjmblgjfaa
namespace Go.Proofs.Ytpfipmjmblgjfaa
open Go.Lg
set_option maxHeartbeats 1600000
set_option maxRecDepth 10000
set_option linter.unusedVariables false
set_option linter.unusedSimpArgs false

theorem mem_prFrom : ∀ (rows : List (List Int)) (a0 : Nat) (p : Pr), p ∈ prFrom a0 rows ↔ ∃ i : Nat, i < rows.length ∧ p.a = ((a0 + i : Nat) : Int) ∧ p.b ∈ rows.getD i []
  | [], a0, p => by simp [prFrom]
  | r :: rs, a0, p => by
    simp only [prFrom, List.mem_append, mem_prFrom rs (a0 + 1) p]
    constructor
    · rintro (h | ⟨i, h1, h2, h3⟩)
      · obtain ⟨b, hb, rfl⟩ := List.mem_map.1 h
        exact ⟨0, by simp, by simp, by simpa using hb⟩
      · exact ⟨i + 1, by simp; omega, by rw [h2]; congr 1; omega, by simpa using h3⟩
    · rintro ⟨i, h1, h2, h3⟩
      cases i with
      | zero =>
        left
        refine List.mem_map.2 ⟨p.b, by simpa using h3, ?_⟩
        cases p; simp at h2 ⊢; exact h2.symm
      | succ i => right; exact ⟨i, by simpa using h1, by rw [h2]; congr 1; omega, by simpa using h3⟩

/-- Whether what is related in the one is related in the other. -/
def relWithin (n : Int) (rows : List (List Int)) (m : Int) (rows' : List (List Int)) : Bool :=
  alike n rows m rows' && decide (∀ a, a < rows.length → ∀ b, b < rows.length → relP rows a b = true → relP rows' a b = true)

theorem less_none {N : Nat} {P Q : Nat → Nat → Bool} (hN : N ≤ 40) : eqI ((pairsL N (relRows N (allP (fun x y => x && !y) P Q))).length : Int) 0 = decide (∀ a, a < N → ∀ b, b < N → P a b = true → Q a b = true) := by
  have hin := relRows_in (n := N) (P := allP (fun x y => x && !y) P Q) hN
  have e : pairsL N (relRows N (allP (fun x y => x && !y) P Q)) = prFrom 0 (relRows N (allP (fun x y => x && !y) P Q)) := by unfold pairsL; rw [relOk_of hin]
  rw [e, Bool.eq_iff_iff, eqI_t, decide_eq_true_eq]
  constructor
  · intro h a ha b hb hp
    cases hq : Q a b
    · exfalso
      have hz : prFrom 0 (relRows N (allP (fun x y => x && !y) P Q)) = [] := List.eq_nil_of_length_eq_zero (by omega)
      have hm : (⟨(a : Int), (b : Int)⟩ : Pr) ∈ prFrom 0 (relRows N (allP (fun x y => x && !y) P Q)) :=
        (mem_prFrom _ 0 _).2 ⟨a, by rw [relRows_len]; exact ha, by simp, (relRows_mem ha).2 ⟨hb, by simp [allP, hp, hq]⟩⟩
      rw [hz] at hm
      simp at hm
    · rfl
  · intro h
    have : prFrom 0 (relRows N (allP (fun x y => x && !y) P Q)) = [] := by
      rw [List.eq_nil_iff_forall_not_mem]
      intro p hp
      obtain ⟨i, h1, h2, h3⟩ := (mem_prFrom _ 0 p).1 hp
      rw [relRows_len] at h1
      have hr : (relRows N (allP (fun x y => x && !y) P Q)).getD i [] ∈ relRows N (allP (fun x y => x && !y) P Q) := by
        have : i < (relRows N (allP (fun x y => x && !y) P Q)).length := by rw [relRows_len]; exact h1
        rw [List.getD_eq_getElem?_getD, List.getElem?_eq_getElem this]; exact List.getElem_mem this
      obtain ⟨b0, b1, _⟩ := hin.mem hr h3
      obtain ⟨b, hb⟩ : ∃ b : Nat, p.b = (b : Int) := ⟨p.b.toNat, by omega⟩
      rw [hb, relRows_mem h1] at h3
      have := h i h1 b h3.1
      simp only [allP, Bool.and_eq_true, Bool.not_eq_true'] at h3
      rw [this h3.2.1] at h3
      simp at h3
    rw [this]; rfl

end Go.Proofs.Ytpfipmjmblgjfaa
namespace Go.Proofs.Ytpfipmjmblgjfaa
open Go.Lg
set_option maxHeartbeats 1600000
set_option maxRecDepth 10000
set_option linter.unusedVariables false
set_option linter.unusedSimpArgs false

theorem tot_relRows {N : Nat} {P : Nat → Nat → Bool} (hN : N ≤ 40) : tot (relRows N P) ≤ 1600 := (relRows_in hN).tot
theorem rsN_le {n : Int} {rows : List (List Int)} : rsN (relOk n rows) rows ≤ 40 := by
  cases h : relOk n rows
  · simp [rsN]
  · exact (relIn_of h).size
theorem rsN_le2 {n : Int} {rows : List (List Int)} {m : Int} {rows' : List (List Int)} : rsN (alike n rows m rows') rows ≤ 40 := by
  cases h : alike n rows m rows'
  · simp [rsN]
  · exact (alike_in h).1.size

end Go.Proofs.Ytpfipmjmblgjfaa
namespace Go.Proofs.Ytpfipmjmblgjfaa
open Go.Lg
set_option maxHeartbeats 1600000
set_option maxRecDepth 10000
set_option linter.unusedVariables false
set_option linter.unusedSimpArgs false

def zPr : LV := .st [.int .i64 0, .int .i64 0]
abbrev shPairs : Sh := .sl (.st [.int .i64, .int .i64])
theorem prs_of : ∀ (xs : List LV), (∀ x ∈ xs, hasSh (.st [.int .i64, .int .i64]) x) → ∃ ps : List Pr, xs = ps.map Pr.lv
  | [], _ => ⟨[], rfl⟩
  | x :: xs, h => by
    obtain ⟨ps, rfl⟩ := prs_of xs fun y hy => h y (by simp [hy])
    have h1 := h x (by simp)
    simp only [hasSh] at h1
    obtain ⟨ys, rfl, h2⟩ := h1
    match ys, h2 with
    | [a, b], h2 =>
      simp only [hasShs, hasSh] at h2
      obtain ⟨⟨a, rfl⟩, ⟨b, rfl⟩, _⟩ := h2
      exact ⟨⟨a, b⟩ :: ps, rfl⟩
    | [], h2 => simp [hasShs] at h2
    | [_], h2 => simp [hasShs] at h2
    | _ :: _ :: _ :: _, h2 => simp [hasShs] at h2
theorem pairs_of_sh {x : LV} (h : hasSh shPairs x) : ∃ ps : List Pr, x = .sl (ps.map Pr.lv) ∧ ps.length ≤ Go.maxLen := by
  simp only [hasSh] at h
  obtain ⟨xs, rfl, hl, h⟩ := h
  obtain ⟨ps, rfl⟩ := prs_of xs fun x hx => by simp only [hasSh]; exact h x hx
  exact ⟨ps, rfl, by simpa using hl⟩

/-- What pairs say, the first k of them. -/
def prTk (ps : List Pr) (k : Nat) : Nat → Nat → Bool := fun a b => decide (∃ p ∈ ps.take k, p.a = (a : Int) ∧ p.b = (b : Int))
def prInB (n : Int) (p : Pr) : Bool := (leI 0 p.a && ltI p.a n) && (leI 0 p.b && ltI p.b n)
def prOk (n : Int) (ps : List Pr) : Bool := (leI 0 n && leI n 40) && ps.all (prInB n)
def prN (n : Int) (ps : List Pr) : Nat := match prOk n ps with | true => n.toNat | false => 0
theorem prTk_zero (ps : List Pr) : prTk ps 0 = fun _ _ => false := by funext a b; simp [prTk]
theorem prTk_succ {ps : List Pr} {k a b : Nat} (hk : k < ps.length) (e : ps[k] = ⟨(a : Int), (b : Int)⟩) : putP (prTk ps k) a b true = prTk ps (k + 1) := by
  funext x y
  have ht : ps.take (k + 1) = ps.take k ++ [⟨(a : Int), (b : Int)⟩] := by rw [List.take_succ_eq_append_getElem hk, e]
  unfold putP prTk
  by_cases h : x = a ∧ y = b
  · obtain ⟨rfl, rfl⟩ := h
    rw [if_pos ⟨rfl, rfl⟩]
    exact (decide_eq_true ⟨⟨(x : Int), (y : Int)⟩, by rw [ht]; simp, rfl, rfl⟩).symm
  · rw [if_neg h, decide_eq_decide]
    constructor
    · rintro ⟨p, h1, h2⟩; exact ⟨p, by rw [ht]; exact List.mem_append_left _ h1, h2⟩
    · rintro ⟨p, h1, h2, h3⟩
      rw [ht, List.mem_append, List.mem_singleton] at h1
      rcases h1 with h1 | rfl
      · exact ⟨p, h1, h2, h3⟩
      · exact absurd ⟨by simp at h2; omega, by simp at h3; omega⟩ h
theorem prInB_nat {N : Nat} {p : Pr} (h : prInB (N : Int) p = true) : ∃ a b : Nat, p = ⟨(a : Int), (b : Int)⟩ ∧ a < N ∧ b < N := by
  unfold prInB at h
  simp only [Bool.and_eq_true, leI_t, ltI_t] at h
  cases p with
  | mk pa pb => exact ⟨pa.toNat, pb.toNat, by simp at h ⊢; omega, by simp at h; omega, by simp at h; omega⟩
theorem prNo {n : Int} {ps : List Pr} {p : Pr} (hp : p ∈ ps) (h : prInB n p = false) : prOk n ps = false := by
  unfold prOk
  rw [Bool.and_eq_false_iff]
  right
  rw [List.all_eq_false]
  exact ⟨p, hp, by rw [h]; simp⟩
theorem prSz {n : Int} {ps : List Pr} (h : notB (leI 0 n && leI n 40) = true) : prOk n ps = false := by
  unfold prOk; rw [notB_t] at h; rw [h]; rfl

theorem prN_le {n : Int} {ps : List Pr} : prN n ps ≤ 40 := by
  unfold prN
  split
  · rename_i h
    unfold prOk at h
    simp only [Bool.and_eq_true, leI_t] at h
    omega
  · omega

end Go.Proofs.Ytpfipmjmblgjfaa
namespace Go.Proofs.Ytpfipmjmblgjfaa
open Go.Lg
set_option maxHeartbeats 1600000
set_option maxRecDepth 10000
set_option linter.unusedVariables false
set_option linter.unusedSimpArgs false

/-! A step is a pair: its kind and its age. -/
def typLV (e : Int) (ss : List Pr) : LV := .st [.int .i64 e, .sl (ss.map Pr.lv)]
def typHS (e : Int) (a m : Nat) : LV := .st [.int .i64 e, .hs a m]

theorem toStep_spec (p : Pr) : FSpec env.P 164 [p.lv] p.lv := by
  refine FSpec_of_code env_ok (fn := Try.f164) Try.func164 rfl Try.call164 _ _ ?_
  ((repeat ((conv => whnf); first | refine brT ?_ | refine brF ?_)); conv => whnf)
  refine ⟨_, rfl, rfl, ?_⟩
  repeat ((conv => whnf); refine ⟨rfl, ?_⟩)
  exact List.nodup_nil
def zStp : LV := .st [.int .i64 0, .int .i64 0]
theorem toStepS_h (ps : List Pr) (hb : 16 * ps.length ≤ 281474976710656) : HSpec env.P 112 [.sl (ps.map Pr.lv)] [] (.hs 0 (ps.map Pr.lv).length) [.arr 112 2 (ps.map Pr.lv)] := by
  refine HSpec_of_code (E := env.x [] 0) env_ok.x (fn := Try.f112) Try.func112 rfl Try.call112 _ _ _ _ ?_
  ((repeat ((conv => whnf); first | refine brT ?_ | refine brF ?_)); conv => whnf)
  intro hp
  have hp' : ps.length ≤ Go.maxLen := by simpa using hp
  ((repeat ((conv => whnf); first | refine brT ?_ | refine brF ?_)); conv => whnf)
  refine ⟨ps.length, by simp, by simp, hb, hp', rfl, by decide, ?_⟩
  ((repeat ((conv => whnf); first | refine brT ?_ | refine brF ?_)); conv => whnf)
  refine loop_rule (α := Nat) (fun k => [(4, .int .i64 (k : Int))]) (fun k => [.arr 112 2 (fillLV Pr.lv zStp ps k)]) (fun k => ps.length - k) (fun k => k ≤ ps.length) 0 (Nat.zero_le _) ?_ ?_
  · refine ⟨?_, ⟨by simp [zStp, fillLV], trivial⟩, rfl, rfl⟩
    ((repeat ((conv => whnf); refine ⟨rfl, ?_⟩)); trivial)
  rintro k hk
  ((repeat ((conv => whnf); first | refine brT ?_ | refine brF ?_)); conv => whnf)
  intro _
  ((repeat ((conv => whnf); first | refine brT ?_ | refine brF ?_)); conv => whnf)
  (refine ⟨fun h1 => ?_, fun h1 => ?_⟩ <;> rw [h1])
  · have hlt : k < ps.length := by rw [ltI_t] at h1; simp at h1; omega
    ((repeat ((conv => whnf); first | refine brT ?_ | refine brF ?_)); conv => whnf)
    refine ⟨k, ps[k].lv, rfl, by simp [hlt], rfl, ?_⟩
    ((repeat ((conv => whnf); first | refine brT ?_ | refine brF ?_)); conv => whnf)
    refine ⟨_, toStep_spec ps[k], ?_⟩
    ((repeat ((conv => whnf); first | refine brT ?_ | refine brF ?_)); conv => whnf)
    refine ⟨(fill_len hk).symm, rfl, k, rfl, by rw [fill_len hk]; exact hlt, ?_⟩
    ((repeat ((conv => whnf); first | refine brT ?_ | refine brF ?_)); conv => whnf)
    refine ⟨(fill_len hk).symm, k, [], zStp, rfl, by simp [getP, fill_get hlt], rfl, rfl, rfl, fillLV Pr.lv zStp ps (k + 1), by rw [fill_get hlt]; exact fill_set hlt, ?_⟩
    ((repeat ((conv => whnf); first | refine brT ?_ | refine brF ?_)); conv => whnf)
    refine round_end (k + 1) hlt (by omega) ⟨?_, ⟨rfl, trivial⟩, rfl, rfl⟩
    have e := step_i hlt hp'
    ((repeat ((conv => whnf); first | refine ⟨e, ?_⟩ | refine ⟨rfl, ?_⟩)); trivial)
  · have h4 : k = ps.length := by rw [ltI_f] at h1; simp at h1; omega
    subst h4
    ((repeat ((conv => whnf); first | refine brT ?_ | refine brF ?_)); conv => whnf)
    exact ⟨[.hs 0 ps.length], by simp [tupOf], rfl, .inl ⟨⟨rfl, trivial⟩, ⟨congrArg (Blk.arr 112 2) fill_all, trivial⟩, rfl, rfl⟩⟩
theorem toStepS_f (ps : List Pr) (hb : 16 * ps.length ≤ 281474976710656) : FSpec env.P 112 [.sl (ps.map Pr.lv)] (.own 112 2 (ps.map Pr.lv)) :=
  FSpec_of_HSpec (toStepS_h ps hb) (by simp only [exW]; exact ⟨rfl, rfl, rfl, rfl, by simp⟩)
theorem szStepS_spec (ps : List Pr) (l : Int) : FSpec env.P 108 [.sl (ps.map Pr.lv), .int .i64 l] (.int .i64 (szN l ps.length)) := by
  refine FSpec_of_code env_ok (fn := Try.f108) Try.func108 rfl Try.call108 _ _ ?_
  ((repeat ((conv => whnf); first | refine brT ?_ | refine brF ?_)); conv => whnf)
  intro hm
  rw [List.length_map]
  ((repeat ((conv => whnf); first | refine brT ?_ | refine brF ?_)); conv => whnf)
  (refine ⟨fun h => ?_, fun h => ?_⟩ <;> rw [h])
  · ((repeat ((conv => whnf); first | refine brT ?_ | refine brF ?_)); conv => whnf); exact ⟨rfl, by unfold szN; rw [h], List.nodup_nil⟩
  · ((repeat ((conv => whnf); first | refine brT ?_ | refine brF ?_)); conv => whnf); exact ⟨rfl, by unfold szN; rw [h], List.nodup_nil⟩
def szT (l : Int) (n : Nat) : Int := match ltI (szN l n) 0 with | true => -1 | false => szN l n
theorem szKinType_spec (e : Int) (ss : List Pr) (l : Int) : FSpec env.P 49 [typLV e ss, .int .i64 l] (.int .i64 (szT l ss.length)) := by
  refine FSpec_of_code env_ok (fn := Try.f49) Try.func49 rfl Try.call49 _ _ ?_
  ((repeat ((conv => whnf); first | refine brT ?_ | refine brF ?_)); conv => whnf)
  refine ⟨_, szStepS_spec ss l, ?_⟩
  ((repeat ((conv => whnf); first | refine brT ?_ | refine brF ?_)); conv => whnf)
  (refine ⟨fun h => ?_, fun h => ?_⟩ <;> rw [h])
  · ((repeat ((conv => whnf); first | refine brT ?_ | refine brF ?_)); conv => whnf); exact ⟨rfl, by unfold szT; rw [h], List.nodup_nil⟩
  · ((repeat ((conv => whnf); first | refine brT ?_ | refine brF ?_)); conv => whnf); exact ⟨rfl, by unfold szT; rw [h], List.nodup_nil⟩
theorem toKinType_h (e : Int) (ss : List Pr) (hb : 16 * ss.length ≤ 281474976710656) : HSpec env.P 51 [typLV e ss] [] (typHS e 0 (ss.map Pr.lv).length) [.arr 112 2 (ss.map Pr.lv)] := by
  refine HSpec_of_code (E := env.x [112] 0) env_ok.x (fn := Try.f51) Try.func51 rfl Try.call51 _ _ _ _ ?_
  ((repeat ((conv => whnf); first | refine brT ?_ | refine brF ?_)); conv => whnf)
  refine ⟨[], _, _, _, _, toStepS_h ss hb, rfl, rfl, rfl, trivial, ?_⟩
  ((repeat ((conv => whnf); first | refine brT ?_ | refine brF ?_)); conv => whnf)
  refine ⟨[typHS e 0 (ss.map Pr.lv).length], rfl, rfl, .inr ⟨[.old 3], ?_, ?_, rfl⟩⟩
  · ((repeat ((conv => whnf); refine ⟨rfl, rfl, ?_⟩)); trivial)
  · exact ⟨rfl, rfl, trivial⟩
theorem toKinType_f (e : Int) (ss : List Pr) (hb : 16 * ss.length ≤ 281474976710656) : FSpec env.P 51 [typLV e ss] (typLV e ss) := by
  refine FSpec_of_code env_ok (fn := Try.f51) Try.func51 rfl Try.call51 _ _ ?_
  ((repeat ((conv => whnf); first | refine brT ?_ | refine brF ?_)); conv => whnf)
  refine ⟨_, toStepS_f ss hb, ?_⟩
  ((repeat ((conv => whnf); first | refine brT ?_ | refine brF ?_)); conv => whnf)
  exact ⟨_, rfl, rfl, rfl, rfl, rfl, by simp [exsW]⟩
theorem eqStep_spec (p q : Pr) : FSpec env.P 168 [p.lv, q.lv] (.bool (p.eq q)) := by
  refine FSpec_of_code env_ok (fn := Try.f168) Try.func168 rfl Try.call168 _ _ ?_
  ((repeat' (((repeat ((conv => whnf); first | refine brT ?_ | refine brF ?_)); conv => whnf); (refine And.intro ?_ ?_ <;> (intro h; rw [h]; revert h; intro _)))); all_goals ((repeat ((conv => whnf); first | refine brT ?_ | refine brF ?_)); conv => whnf))
  all_goals (refine fin ?_; simp_all [Pr.eq, notB])
theorem eqStepS_spec (ps qs : List Pr) : FSpec env.P 118 [.sl (ps.map Pr.lv), .sl (qs.map Pr.lv)] (.bool (eqList Pr.eq ps qs)) := by
  refine FSpec_of_code env_ok (fn := Try.f118) Try.func118 rfl Try.call118 _ _ ?_
  ((repeat ((conv => whnf); first | refine brT ?_ | refine brF ?_)); conv => whnf)
  intro hp
  ((repeat ((conv => whnf); first | refine brT ?_ | refine brF ?_)); conv => whnf)
  intro hq
  ((repeat ((conv => whnf); first | refine brT ?_ | refine brF ?_)); conv => whnf)
  (refine ⟨fun h => ?_, fun h => ?_⟩ <;> rw [h])
  · ((repeat ((conv => whnf); first | refine brT ?_ | refine brF ?_)); conv => whnf)
    refine fin ?_
    rw [notB_t] at h
    rw [eqList_len (eqI_nolen h)]
  rw [notB_f] at h
  have hl := eqI_len h
  have hp' : ps.length ≤ Go.maxLen := by simpa using hp
  ((repeat ((conv => whnf); first | refine brT ?_ | refine brF ?_)); conv => whnf)
  refine loop_rule (α := Nat) (fun k => [(5, .int .i64 (k : Int))]) (fun _ => []) (fun k => ps.length - k) (fun k => k ≤ ps.length ∧ eqTo Pr.eq ps qs k) 0 ⟨Nat.zero_le _, fun _ _ _ h => absurd h (Nat.not_lt_zero _)⟩ ?_ ?_
  · refine ⟨?_, trivial, rfl, rfl⟩
    ((repeat ((conv => whnf); refine ⟨rfl, ?_⟩)); trivial)
  rintro k ⟨hk, he⟩
  ((repeat ((conv => whnf); first | refine brT ?_ | refine brF ?_)); conv => whnf)
  intro _
  ((repeat ((conv => whnf); first | refine brT ?_ | refine brF ?_)); conv => whnf)
  (refine ⟨fun h1 => ?_, fun h1 => ?_⟩ <;> rw [h1])
  · have hlt : k < ps.length := by rw [ltI_t] at h1; simp at h1; omega
    have hlt2 : k < qs.length := by omega
    ((repeat ((conv => whnf); first | refine brT ?_ | refine brF ?_)); conv => whnf)
    refine ⟨true, by kernel_rfl, ?_⟩
    ((repeat ((conv => whnf); first | refine brT ?_ | refine brF ?_)); conv => whnf)
    refine ⟨k, ps[k].lv, rfl, by simp [hlt], rfl, ?_⟩
    ((repeat ((conv => whnf); first | refine brT ?_ | refine brF ?_)); conv => whnf)
    refine ⟨k, qs[k].lv, rfl, by simp [hlt2], rfl, ?_⟩
    ((repeat ((conv => whnf); first | refine brT ?_ | refine brF ?_)); conv => whnf)
    refine ⟨_, eqStep_spec ps[k] qs[k], ?_⟩
    ((repeat ((conv => whnf); first | refine brT ?_ | refine brF ?_)); conv => whnf)
    (refine ⟨fun h3 => ?_, fun h3 => ?_⟩ <;> rw [h3])
    · rw [notB_t] at h3
      ((repeat ((conv => whnf); first | refine brT ?_ | refine brF ?_)); conv => whnf)
      refine fin ?_
      rw [eqList_no (k := k) (x := ps[k]) (y := qs[k]) (by simp [hlt]) (by simp [hlt2]) h3]
    · rw [notB_f] at h3
      ((repeat ((conv => whnf); first | refine brT ?_ | refine brF ?_)); conv => whnf)
      refine round_end (k + 1) ⟨hlt, he.succ (x := ps[k]) (y := qs[k]) (by simp [hlt]) (by simp [hlt2]) h3⟩ (by omega) ⟨?_, trivial, rfl, rfl⟩
      have e := step_i hlt hp'
      ((repeat ((conv => whnf); first | refine ⟨e, ?_⟩ | refine ⟨rfl, ?_⟩)); trivial)
  · have h3 : ps.length ≤ k := by rw [ltI_f] at h1; simp at h1; omega
    have h4 : k = ps.length := by omega
    subst h4
    ((repeat ((conv => whnf); first | refine brT ?_ | refine brF ?_)); conv => whnf)
    refine fin ?_
    rw [eqTo.all hl he]
def eqTyp (e : Int) (ss : List Pr) (f : Int) (ts : List Pr) : Bool := eqI e f && eqList Pr.eq ss ts
theorem eqKinType_spec (e : Int) (ss : List Pr) (f : Int) (ts : List Pr) : FSpec env.P 53 [typLV e ss, typLV f ts] (.bool (eqTyp e ss f ts)) := by
  refine FSpec_of_code env_ok (fn := Try.f53) Try.func53 rfl Try.call53 _ _ ?_
  ((repeat' (((repeat ((conv => whnf); first | refine brT ?_ | refine brF ?_)); conv => whnf); first | (refine And.intro ?_ ?_ <;> (intro h; rw [h]; revert h; intro _)) | (refine Exists.intro true (And.intro (a := drawB _ _ = true) (by kernel_rfl) ?_)) | (refine Exists.intro _ (And.intro (eqStepS_spec ss ts) ?_)))); all_goals ((repeat ((conv => whnf); first | refine brT ?_ | refine brF ?_)); conv => whnf))
  all_goals (refine fin ?_; simp_all [eqTyp, notB])
theorem eqTyp_refl (e : Int) (ss : List Pr) : eqTyp e ss e ss = true := by simp [eqTyp, eqI_refl, eqPairS_refl]

theorem markStepS_spec (ps : List Pr) (n : Nat) (hn : n = (ps.map Pr.lv).length) (k : Nat) (h1 : k + 2 * ps.length ≤ 2305843009213693952) :
    HSpec env.P 119 [.hs 0 n, .int .i64 (k : Int)] [.arr 112 2 (ps.map Pr.lv)] (.int .i64 ((k + 2 * ps.length : Nat) : Int)) [.arr 112 2 ((markPrs k ps.length).map Pr.lv)] := by
  subst hn
  refine HSpec_of_code (E := env.x [] 1) env_ok.x (fn := Try.f119) Try.func119 rfl Try.call119 _ _ _ _ ?_
  ((repeat ((conv => whnf); first | refine brT ?_ | refine brF ?_)); conv => whnf)
  refine loop_rule (α := Nat) (fun i => [(5, .int .i64 (i : Int)), (1, .int .i64 ((k + 2 * i : Nat) : Int)), (0, .hs 0 (rowQM k ps i).length)]) (fun i => [.arr 112 2 (rowQM k ps i)]) (fun i => ps.length - i) (fun i => i ≤ ps.length) 0 (Nat.zero_le _) ?_ ?_
  · have e0 : ps.map Pr.lv = rowQM k ps 0 := by simp [rowQM, markPrs]
    have e1 : LV.hs 0 (ps.map Pr.lv).length = LV.hs 0 (rowQM k ps 0).length := by rw [e0]
    refine ⟨?_, ⟨congrArg (Blk.arr 112 2) e0, trivial⟩, rfl, rfl⟩
    ((repeat ((conv => whnf); first | refine ⟨e1, ?_⟩ | refine ⟨rfl, ?_⟩)); trivial)
  intro i hi
  have hl := rowQM_len (k := k) hi
  ((repeat ((conv => whnf); first | refine brT ?_ | refine brF ?_)); conv => whnf)
  refine ⟨rfl, fun hm => ?_⟩
  have hm' : ps.length ≤ Go.maxLen := by rw [← hl]; exact hm
  ((repeat ((conv => whnf); first | refine brT ?_ | refine brF ?_)); conv => whnf)
  (refine ⟨fun g1 => ?_, fun g1 => ?_⟩ <;> rw [g1])
  · have hlt : i < ps.length := by rw [ltI_t] at g1; omega
    have e := step_i hlt hm'
    have hiL : i < (rowQM k ps i).length := by omega
    have hg := rowQM_get (k := k) hlt
    have hset := rowQM_set (k := k) hlt
    have w0 : IntKind.i64.wrap (((k + 2 * i : Nat) : Int) + 1) = ((k + 2 * i : Nat) : Int) + 1 := wrap64 (by omega) (by omega)
    have w3 : IntKind.i64.wrap (((k + 2 * i : Nat) : Int) + 1 + 1) = ((k + 2 * (i + 1) : Nat) : Int) := by rw [wrap64 (by omega) (by omega)]; omega
    have hlen : ∀ x : LV, (rowQM k ps i).length = ((rowQM k ps i).set i x).length := fun x => by simp
    generalize ps[i] = p at hg hset
    generalize hK : ((k + 2 * i : Nat) : Int) = kk at w0 w3 hset ⊢
    have hfin : (rowQM k ps i).set i (.st [.int .i64 kk, .int .i64 (kk + 1)]) = rowQM k ps (i + 1) := hset
    generalize rowQM k ps i = L at hl hm hiL hg hlen hfin g1 ⊢
    have hgp : getP (.st L) [i] = some (.st [LV.int .i64 p.a, LV.int .i64 p.b]) := by simp [getP, hg, Pr.lv]
    have hgp0 : getP (.st L) [i, 0] = some (.int .i64 p.a) := by simp [getP, hg, Pr.lv]
    ((repeat ((conv => whnf); first | refine brT ?_ | refine brF ?_)); conv => whnf)
    refine ⟨rfl, rfl, i, rfl, hiL, ?_⟩
    ((repeat ((conv => whnf); first | refine brT ?_ | refine brF ?_)); conv => whnf)
    refine ⟨rfl, by simp, [LV.int .i64 p.a, LV.int .i64 p.b], hgp, rfl, by simp, ?_⟩
    ((repeat ((conv => whnf); first | refine brT ?_ | refine brF ?_)); conv => whnf)
    refine ⟨rfl, i, [0], .int .i64 p.a, rfl, hgp0, rfl, rfl, rfl, L.set i (.st [.int .i64 kk, .int .i64 p.b]), by rw [hg]; rfl, ?_⟩
    ((repeat ((conv => whnf); first | refine brT ?_ | refine brF ?_)); conv => whnf)
    rw [w0]
    refine ⟨hlen _, rfl, i, rfl, by simpa using hiL, ?_⟩
    ((repeat ((conv => whnf); first | refine brT ?_ | refine brF ?_)); conv => whnf)
    refine ⟨hlen _, by simp, _, fw_get hiL _, rfl, by simp, ?_⟩
    ((repeat ((conv => whnf); first | refine brT ?_ | refine brF ?_)); conv => whnf)
    refine ⟨hlen _, i, [1], _, rfl, fw_get2 hiL rfl, rfl, rfl, rfl, _, fw_set hiL rfl (.int .i64 (kk + 1)), ?_⟩
    ((repeat ((conv => whnf); first | refine brT ?_ | refine brF ?_)); conv => whnf)
    have e5 : LV.hs 0 L.length = LV.hs 0 (rowQM k ps (i + 1)).length := by rw [hl, rowQM_len (by omega)]
    have e6 : LV.int .i64 (IntKind.i64.wrap (kk + 1 + 1)) = LV.int .i64 ((k + 2 * (i + 1) : Nat) : Int) := by rw [w3]
    refine round_end (i + 1) hlt (by omega) ⟨?_, ⟨congrArg (Blk.arr 112 2) hfin, trivial⟩, rfl, rfl⟩
    repeat ((conv => whnf); first | refine ⟨e, ?_⟩ | refine ⟨e6, ?_⟩ | refine ⟨e5, ?_⟩ | refine ⟨rfl, ?_⟩)
    trivial
  · have h3 : i = ps.length := by rw [ltI_f] at g1; omega
    subst h3
    ((repeat ((conv => whnf); first | refine brT ?_ | refine brF ?_)); conv => whnf)
    exact ⟨[.int .i64 ((k + 2 * ps.length : Nat) : Int)], rfl, rfl, .inl ⟨⟨rfl, trivial⟩, ⟨by simp [rowQM], trivial⟩, rfl, rfl⟩⟩
theorem heldStepS_spec (k n : Nat) (h1 : k + 2 * n ≤ 2305843009213693952) : FSpec env.P 137 [.sl ((markPrs k n).map Pr.lv), .int .i64 (k : Int)] (.int .i64 ((k + 2 * n : Nat) : Int)) := by
  refine FSpec_of_code env_ok (fn := Try.f137) Try.func137 rfl Try.call137 _ _ ?_
  have hl : (List.map Pr.lv (markPrs k n)).length = n := by simp [markPrs_len]
  ((repeat ((conv => whnf); first | refine brT ?_ | refine brF ?_)); conv => whnf)
  refine loop_rule (α := Nat) (fun i => [(5, .int .i64 (i : Int)), (1, .int .i64 ((k + 2 * i : Nat) : Int))]) (fun i => []) (fun i => n - i) (fun i => i ≤ n) 0 (Nat.zero_le _) ?_ ?_
  · refine ⟨?_, trivial, rfl, rfl⟩
    ((repeat ((conv => whnf); refine ⟨rfl, ?_⟩)); trivial)
  intro i hi
  ((repeat ((conv => whnf); first | refine brT ?_ | refine brF ?_)); conv => whnf)
  intro hm
  rw [hl] at hm
  ((repeat ((conv => whnf); first | refine brT ?_ | refine brF ?_)); conv => whnf)
  (refine ⟨fun g1 => ?_, fun g1 => ?_⟩ <;> rw [g1])
  · have hlt : i < n := by rw [ltI_t] at g1; omega
    have e := step_i hlt hm
    have hg : (List.map Pr.lv (markPrs k n))[i]? = some (.st [.int .i64 ((k + 2 * i : Nat) : Int), .int .i64 (((k + 2 * i : Nat) : Int) + 1)]) := by
      rw [List.getElem?_map, markPrs_get k n i hlt]; rfl
    have w0 : IntKind.i64.wrap (((k + 2 * i : Nat) : Int) + 1) = ((k + 2 * i : Nat) : Int) + 1 := wrap64 (by omega) (by omega)
    have w3 : IntKind.i64.wrap (((k + 2 * i : Nat) : Int) + 1 + 1) = ((k + 2 * (i + 1) : Nat) : Int) := by rw [wrap64 (by omega) (by omega)]; omega
    generalize hK : ((k + 2 * i : Nat) : Int) = kk at w0 w3 hg ⊢
    have e6 : LV.int .i64 (IntKind.i64.wrap (kk + 1 + 1)) = LV.int .i64 ((k + 2 * (i + 1) : Nat) : Int) := by rw [w3]
    ((repeat ((conv => whnf); first | refine brT ?_ | refine brF ?_)); conv => whnf)
    refine ⟨i, _, rfl, hg, rfl, ?_⟩
    ((repeat ((conv => whnf); first | refine brT ?_ | refine brF ?_)); conv => whnf)
    rw [show notB (eqI kk kk) = false by simp [notB, eqI]]
    ((repeat ((conv => whnf); first | refine brT ?_ | refine brF ?_)); conv => whnf)
    rw [w0]
    refine ⟨i, _, rfl, hg, rfl, ?_⟩
    ((repeat ((conv => whnf); first | refine brT ?_ | refine brF ?_)); conv => whnf)
    rw [show notB (eqI (kk + 1) (kk + 1)) = false by simp [notB, eqI]]
    ((repeat ((conv => whnf); first | refine brT ?_ | refine brF ?_)); conv => whnf)
    refine round_end (i + 1) hlt (by omega) ⟨?_, trivial, rfl, rfl⟩
    repeat ((conv => whnf); first | refine ⟨e, ?_⟩ | refine ⟨e6, ?_⟩ | refine ⟨rfl, ?_⟩)
    trivial
  · have h3 : i = n := by rw [ltI_f] at g1; omega
    subst h3
    ((repeat ((conv => whnf); first | refine brT ?_ | refine brF ?_)); conv => whnf)
    exact ⟨rfl, rfl, List.nodup_nil⟩
theorem markKinType_spec (e : Int) (ps : List Pr) (m : Nat) (hm : m = (ps.map Pr.lv).length) (k : Nat) (h1 : k + 2 * ps.length ≤ 2305843009213693952) :
    HSpec env.P 54 [typHS e 0 m, .int .i64 (k : Int)] [.arr 112 2 (ps.map Pr.lv)] (.int .i64 ((k + 2 * ps.length : Nat) : Int)) [.arr 112 2 ((markPrs k ps.length).map Pr.lv)] := by
  refine HSpec_of_code (E := env.x [119] 1) env_ok.x (fn := Try.f54) Try.func54 rfl Try.call54 _ _ _ _ ?_
  ((repeat ((conv => whnf); first | refine brT ?_ | refine brF ?_)); conv => whnf)
  refine ⟨[0], _, _, _, _, markStepS_spec ps m hm k h1, rfl, rfl, rfl, trivial, ?_⟩
  ((repeat ((conv => whnf); first | refine brT ?_ | refine brF ?_)); conv => whnf)
  exact ⟨[.int .i64 ((k + 2 * ps.length : Nat) : Int)], rfl, rfl, .inl ⟨⟨rfl, trivial⟩, ⟨rfl, trivial⟩, rfl, rfl⟩⟩
theorem heldKinType_spec (e : Int) (k n : Nat) (h1 : k + 2 * n ≤ 2305843009213693952) : FSpec env.P 72 [typLV e (markPrs k n), .int .i64 (k : Int)] (.int .i64 ((k + 2 * n : Nat) : Int)) := by
  refine FSpec_of_code env_ok (fn := Try.f72) Try.func72 rfl Try.call72 _ _ ?_
  ((repeat ((conv => whnf); first | refine brT ?_ | refine brF ?_)); conv => whnf)
  refine ⟨_, heldStepS_spec k n h1, ?_⟩
  ((repeat ((conv => whnf); first | refine brT ?_ | refine brF ?_)); conv => whnf)
  rw [show ltI ((k + 2 * n : Nat) : Int) 0 = false by rw [ltI_f]; omega]
  ((repeat ((conv => whnf); first | refine brT ?_ | refine brF ?_)); conv => whnf)
  exact ⟨rfl, rfl, List.nodup_nil⟩
end Go.Proofs.Ytpfipmjmblgjfaa

namespace Go.Proofs.Ytpfipmjmblgjfaa
open Go.Lg
set_option maxHeartbeats 1600000
set_option maxRecDepth 10000
set_option linter.unusedVariables false
set_option linter.unusedSimpArgs false

theorem eqI_d (a b : Int) : eqI a b = decide (a = b) := by rw [Bool.eq_iff_iff, eqI_t]; simp
theorem ltI_d (a b : Int) : ltI a b = decide (a < b) := by rw [Bool.eq_iff_iff, ltI_t]; simp
theorem leI_d (a b : Int) : leI a b = decide (a ≤ b) := by rw [Bool.eq_iff_iff, leI_t]; simp
theorem notB_d (b : Bool) : notB b = !b := by rw [Bool.eq_iff_iff, notB_t]; simp

/-- A step of a kind and an age may be made from a person of a sex. -/
def stepB (k g x : Int) : Bool :=
  ((eqI k 1 || eqI k 2 || eqI k 5 || eqI k 6) && eqI g 0) || ((eqI k 3 || eqI k 4) && (eqI g 0 || eqI g 1 || eqI g 2)) ||
  (eqI k 7 && (eqI g 0 && notB (eqI x 1))) || (eqI k 8 && (eqI g 0 && notB (eqI x 2)))
theorem isStepFrom_spec (x : Int) (s : Pr) : FSpec env.P 166 [.int .i64 x, s.lv] (.bool (stepB s.a s.b x)) := by
  refine FSpec_of_code env_ok (fn := Try.f166) Try.func166 rfl Try.call166 _ _ ?_
  ((repeat' (((repeat ((conv => whnf); first | refine brT ?_ | refine brF ?_)); conv => whnf); (refine And.intro ?_ ?_ <;> (intro h; rw [h]; revert h; intro _)))); all_goals ((repeat ((conv => whnf); first | refine brT ?_ | refine brF ?_)); conv => whnf))
  all_goals (refine fin ?_; unfold stepB; simp only [eqI_d, notB_d] at *; simp only [decide_eq_true_eq, decide_eq_false_iff_not] at *; grind)
theorem l3Step_spec (s : Pr) (x : Int) : FSpec env.P 161 [s.lv, .int .i64 x] (.bool (stepB s.a s.b x)) := by
  refine FSpec_of_code env_ok (fn := Try.f161) Try.func161 rfl Try.call161 _ _ ?_
  ((repeat' (((repeat ((conv => whnf); first | refine brT ?_ | refine brF ?_)); conv => whnf); first | (refine And.intro ?_ ?_ <;> (intro h; rw [h]; revert h; intro _)) | (refine Exists.intro true (And.intro (a := drawB _ _ = true) (by kernel_rfl) ?_)) | (refine Exists.intro _ (And.intro (l1In_spec _ _ _) ?_)))); all_goals ((repeat ((conv => whnf); first | refine brT ?_ | refine brF ?_)); conv => whnf))
  all_goals (refine fin ?_; unfold stepB; simp only [eqI_d, notB_d, leI_d] at *; grind)
/-- The sex of whom a step of this kind leads to. -/
def sxOf (k : Int) : Int := match eqI (k.tmod 2) 1 with | true => 1 | false => 2
theorem l3Sex_spec (k : Int) : FSpec env.P 162 [.int .i64 k] (.int .i64 (sxOf k)) := by
  refine FSpec_of_code env_ok (fn := Try.f162) Try.func162 rfl Try.call162 _ _ ?_
  ((repeat ((conv => whnf); first | refine brT ?_ | refine brF ?_)); conv => whnf)
  refine ⟨by decide, ?_⟩
  ((repeat ((conv => whnf); first | refine brT ?_ | refine brF ?_)); conv => whnf)
  (refine ⟨fun h => ?_, fun h => ?_⟩ <;> rw [h])
  · ((repeat ((conv => whnf); first | refine brT ?_ | refine brF ?_)); conv => whnf); exact ⟨rfl, by unfold sxOf; rw [h], List.nodup_nil⟩
  · ((repeat ((conv => whnf); first | refine brT ?_ | refine brF ?_)); conv => whnf); exact ⟨rfl, by unfold sxOf; rw [h], List.nodup_nil⟩
theorem sexOfStep_spec (s : Pr) : FSpec env.P 167 [s.lv] (.int .i64 (sxOf s.a)) := by
  refine FSpec_of_code env_ok (fn := Try.f167) Try.func167 rfl Try.call167 _ _ ?_
  ((repeat ((conv => whnf); first | refine brT ?_ | refine brF ?_)); conv => whnf)
  refine ⟨by decide, ?_⟩
  ((repeat ((conv => whnf); first | refine brT ?_ | refine brF ?_)); conv => whnf)
  (refine ⟨fun h => ?_, fun h => ?_⟩ <;> rw [h])
  · ((repeat ((conv => whnf); first | refine brT ?_ | refine brF ?_)); conv => whnf); exact ⟨rfl, by unfold sxOf; rw [h], List.nodup_nil⟩
  · ((repeat ((conv => whnf); first | refine brT ?_ | refine brF ?_)); conv => whnf); exact ⟨rfl, by unfold sxOf; rw [h], List.nodup_nil⟩
theorem isSex_spec (x : Int) : FSpec env.P 165 [.int .i64 x] (.bool (eqI x 1 || eqI x 2)) := by
  refine FSpec_of_code env_ok (fn := Try.f165) Try.func165 rfl Try.call165 _ _ ?_
  ((repeat' (((repeat ((conv => whnf); first | refine brT ?_ | refine brF ?_)); conv => whnf); (refine And.intro ?_ ?_ <;> (intro h; rw [h]; revert h; intro _)))); all_goals ((repeat ((conv => whnf); first | refine brT ?_ | refine brF ?_)); conv => whnf))
  all_goals (refine fin ?_; simp_all)

/-- The sex from whom step i is made. -/
def sexAt (x : Int) (ss : List Pr) : Nat → Int
  | 0 => x
  | i + 1 => match ss[i]? with | some s => sxOf s.a | none => x
def sexTo (x : Int) (ss : List Pr) (k : Nat) : List Int := (List.range k).map (sexAt x ss)
theorem sexTo_succ (x : Int) (ss : List Pr) (k : Nat) : sexTo x ss (k + 1) = sexTo x ss k ++ [sexAt x ss k] := by simp [sexTo, List.range_succ]
theorem sexTo_len (x : Int) (ss : List Pr) (k : Nat) : (sexTo x ss k).length = k := by simp [sexTo]
theorem sexTo_get {x : Int} {ss : List Pr} {k i : Nat} (h : i < k) : (sexTo x ss k)[i]? = some (sexAt x ss i) := by simp [sexTo, h]
theorem sexAt_succ {x : Int} {ss : List Pr} {k : Nat} (h : k < ss.length) : sexAt x ss (k + 1) = sxOf ss[k].a := by simp [sexAt, h]

theorem sexesFrom_h (x : Int) (ss : List Pr) (h8 : ss.length ≤ 8) : HSpec env.P 116 [.int .i64 x, .sl (ss.map Pr.lv)] [] (.hs 0 ((sexTo x ss ss.length).map intLV).length) [.arr 3 1 ((sexTo x ss ss.length).map intLV)] := by
  refine HSpec_of_code (E := env.x [] 0) env_ok.x (fn := Try.f116) Try.func116 rfl Try.call116 _ _ _ _ ?_
  ((repeat ((conv => whnf); first | refine brT ?_ | refine brF ?_)); conv => whnf)
  intro hp
  have hp' : ss.length ≤ Go.maxLen := by simpa using hp
  ((repeat ((conv => whnf); first | refine brT ?_ | refine brF ?_)); conv => whnf)
  refine loop_ruleR (α := Nat) [.nil 3 1] (fun k => [(12, .int .i64 (k : Int)), (6, .int .i64 (sexAt x ss k)), (5, .hs 0 ((sexTo x ss k).map intLV).length)]) (fun k => [.arr 3 1 ((sexTo x ss k).map intLV)])
    (fun k => ss.length - k) (fun k => k ≤ ss.length) 0 (Nat.zero_le _) ?_ ?_
  · refine ⟨?_, ⟨rfl, rfl, trivial⟩, rfl⟩
    ((repeat ((conv => whnf); refine ⟨rfl, rfl, ?_⟩)); trivial)
  intro k hk
  ((repeat ((conv => whnf); first | refine brT ?_ | refine brF ?_)); conv => whnf)
  (refine ⟨fun h1 => ?_, fun h1 => ?_⟩ <;> rw [h1])
  · have hlt : k < ss.length := by rw [ltI_t] at h1; simp at h1; omega
    have e : LV.int .i64 (IntKind.i64.wrap ((k : Int) + 1)) = LV.int .i64 ((k + 1 : Nat) : Int) := step_i hlt hp'
    have e2 : (sexTo x ss k).map intLV ++ [LV.int .i64 (sexAt x ss k)] = (sexTo x ss (k + 1)).map intLV := by rw [sexTo_succ, List.map_append]; rfl
    have e3 : LV.hs 0 ((sexTo x ss k).map intLV ++ [LV.int .i64 (sexAt x ss k)]).length = LV.hs 0 ((sexTo x ss (k + 1)).map intLV).length := by rw [e2]
    have e4 : LV.int .i64 (sxOf ss[k].a) = LV.int .i64 (sexAt x ss (k + 1)) := by rw [sexAt_succ hlt]
    ((repeat ((conv => whnf); first | refine brT ?_ | refine brF ?_)); conv => whnf)
    refine ⟨k, ss[k].lv, rfl, by simp [hlt], rfl, ?_⟩
    ((repeat ((conv => whnf); first | refine brT ?_ | refine brF ?_)); conv => whnf)
    refine ⟨rfl, rfl, ?_, ?_, ?_⟩
    · rw [e2]; simp [sexTo_len]; omega
    · rw [e2]; simp [sexTo_len]; omega
    ((repeat ((conv => whnf); first | refine brT ?_ | refine brF ?_)); conv => whnf)
    refine ⟨_, sexOfStep_spec ss[k], ?_⟩
    ((repeat ((conv => whnf); first | refine brT ?_ | refine brF ?_)); conv => whnf)
    refine round_endR [.old 3] (k + 1) hlt (by omega) ⟨?_, ⟨rfl, congrArg (Blk.arr 3 1) e2, trivial⟩, rfl⟩
    repeat ((conv => whnf); first | refine ⟨rfl, e, ?_⟩ | refine ⟨rfl, e3, ?_⟩ | refine ⟨rfl, e4, ?_⟩ | refine ⟨rfl, rfl, ?_⟩)
    trivial
  · have h3 : k = ss.length := by rw [ltI_f] at h1; simp at h1; omega
    subst h3
    ((repeat ((conv => whnf); first | refine brT ?_ | refine brF ?_)); conv => whnf)
    exact ⟨[.hs 0 ((sexTo x ss ss.length).map intLV).length], rfl, rfl, .inl ⟨⟨rfl, trivial⟩, ⟨rfl, trivial⟩, rfl, rfl⟩⟩

theorem sexesFrom_f (x : Int) (ss : List Pr) (h8 : ss.length ≤ 8) : FSpec env.P 116 [.int .i64 x, .sl (ss.map Pr.lv)] (.own 3 1 ((sexTo x ss ss.length).map intLV)) :=
  FSpec_of_HSpec (sexesFrom_h x ss h8) (by simp only [exW]; exact ⟨rfl, rfl, rfl, rfl, by simp⟩)

/-- A type's steps may be made one after the other. -/
def stepsTo (x : Int) (ss : List Pr) (k : Nat) : Bool := (List.range k).all fun i => match ss[i]? with | some s => stepB s.a s.b (sexAt x ss i) | none => true
theorem stepsTo_succ {x : Int} {ss : List Pr} {k : Nat} (h : stepsTo x ss k = true) (hk : k < ss.length) (hs : stepB ss[k].a ss[k].b (sexAt x ss k) = true) : stepsTo x ss (k + 1) = true := by
  unfold stepsTo at h ⊢
  rw [List.range_succ, List.all_append, h]
  simp [hk, hs]
theorem stepsTo_no {x : Int} {ss : List Pr} {k n : Nat} (hk : k < ss.length) (hn : k < n) (hs : stepB ss[k].a ss[k].b (sexAt x ss k) = false) : stepsTo x ss n = false := by
  unfold stepsTo
  rw [List.all_eq_false]
  exact ⟨k, by simpa using hn, by simp [hk, hs]⟩
def typB (e : Int) (ss : List Pr) : Bool := (leI 0 e && leI e 2) && (leI (ss.length : Int) 8 && stepsTo e ss ss.length)
theorem typB_sex (e : Int) : (leI 0 e && leI e 2) = (eqI e 1 || eqI e 2 || eqI e 0) := by simp only [leI_d, eqI_d]; grind
theorem typB_e {e : Int} {ss : List Pr} (h : (leI 0 e && leI e 2) = false) : typB e ss = false := by unfold typB; rw [h]; rfl
theorem typB_l {e : Int} {ss : List Pr} (h : ltI 8 (ss.length : Int) = true) : typB e ss = false := by
  unfold typB; rw [show leI (ss.length : Int) 8 = false by rw [leI_f]; rw [ltI_t] at h; exact h]; simp
theorem typB_s {e : Int} {ss : List Pr} (h : stepsTo e ss ss.length = false) : typB e ss = false := by unfold typB; rw [h]; simp
theorem typB_y {e : Int} {ss : List Pr} (h : (leI 0 e && leI e 2) = true) (h1 : ltI 8 (ss.length : Int) = false) (h2 : stepsTo e ss ss.length = true) : typB e ss = true := by
  unfold typB; rw [h, h2, show leI (ss.length : Int) 8 = true by rw [leI_t]; rw [ltI_f] at h1; exact h1]; rfl
theorem isType_spec (e : Int) (ss : List Pr) : FSpec env.P 109 [typLV e ss] (.bool (typB e ss)) := by
  refine FSpec_of_code env_ok (fn := Try.f109) Try.func109 rfl Try.call109 _ _ ?_
  ((repeat ((conv => whnf); first | refine brT ?_ | refine brF ?_)); conv => whnf)
  refine ⟨_, l1In_spec _ _ _, ?_⟩
  ((repeat ((conv => whnf); first | refine brT ?_ | refine brF ?_)); conv => whnf)
  (refine ⟨fun h => ?_, fun h => ?_⟩ <;> rw [h])
  · rw [notB_t] at h
    ((repeat ((conv => whnf); first | refine brT ?_ | refine brF ?_)); conv => whnf)
    exact fin (typB_e h).symm
  rw [notB_f] at h
  ((repeat ((conv => whnf); first | refine brT ?_ | refine brF ?_)); conv => whnf)
  intro hp
  have hp' : ss.length ≤ Go.maxLen := by simpa using hp
  rw [List.length_map]
  ((repeat ((conv => whnf); first | refine brT ?_ | refine brF ?_)); conv => whnf)
  (refine ⟨fun h1 => ?_, fun h1 => ?_⟩ <;> rw [h1])
  · ((repeat ((conv => whnf); first | refine brT ?_ | refine brF ?_)); conv => whnf)
    exact fin (typB_l h1).symm
  ((repeat ((conv => whnf); first | refine brT ?_ | refine brF ?_)); conv => whnf)
  intro _
  rw [List.length_map]
  ((repeat ((conv => whnf); first | refine brT ?_ | refine brF ?_)); conv => whnf)
  refine loop_rule (α := Nat) (fun k => [(21, .int .i64 (k : Int)), (3, .int .i64 (sexAt e ss k))]) (fun k => [.box (typLV e ss)]) (fun k => ss.length - k) (fun k => k ≤ ss.length ∧ stepsTo e ss k = true) 0 ⟨Nat.zero_le _, rfl⟩ ?_ ?_
  · refine ⟨?_, ⟨rfl, trivial⟩, rfl, rfl⟩
    ((repeat ((conv => whnf); refine ⟨rfl, ?_⟩)); trivial)
  rintro k ⟨hk, hs⟩
  ((repeat ((conv => whnf); first | refine brT ?_ | refine brF ?_)); conv => whnf)
  (refine ⟨fun g => ?_, fun g => ?_⟩ <;> rw [g])
  · have hlt : k < ss.length := by rw [ltI_t] at g; omega
    have e1 : LV.int .i64 (IntKind.i64.wrap ((k : Int) + 1)) = LV.int .i64 ((k + 1 : Nat) : Int) := step_i hlt hp'
    have e4 : LV.int .i64 (sxOf ss[k].a) = LV.int .i64 (sexAt e ss (k + 1)) := by rw [sexAt_succ hlt]
    ((repeat ((conv => whnf); first | refine brT ?_ | refine brF ?_)); conv => whnf)
    refine ⟨k, ss[k].lv, rfl, by simp [hlt], rfl, ?_⟩
    ((repeat ((conv => whnf); first | refine brT ?_ | refine brF ?_)); conv => whnf)
    refine ⟨_, l3Step_spec ss[k] _, ?_⟩
    ((repeat ((conv => whnf); first | refine brT ?_ | refine brF ?_)); conv => whnf)
    (refine ⟨fun g2 => ?_, fun g2 => ?_⟩ <;> rw [g2])
    · rw [notB_t] at g2
      ((repeat ((conv => whnf); first | refine brT ?_ | refine brF ?_)); conv => whnf)
      exact fin (typB_s (stepsTo_no hlt hlt g2)).symm
    rw [notB_f] at g2
    ((repeat ((conv => whnf); first | refine brT ?_ | refine brF ?_)); conv => whnf)
    refine ⟨_, l3Sex_spec _, ?_⟩
    ((repeat ((conv => whnf); first | refine brT ?_ | refine brF ?_)); conv => whnf)
    refine round_end (k + 1) ⟨hlt, stepsTo_succ hs hlt g2⟩ (by show ss.length - (k + 1) < ss.length - k; omega) ⟨?_, ⟨rfl, trivial⟩, rfl, rfl⟩
    repeat ((conv => whnf); first | refine ⟨e1, ?_⟩ | refine ⟨e4, ?_⟩ | refine ⟨rfl, ?_⟩)
    trivial
  · have h3 : k = ss.length := by rw [ltI_f] at g; omega
    subst h3
    ((repeat ((conv => whnf); first | refine brT ?_ | refine brF ?_)); conv => whnf)
    exact fin (typB_y h h1 hs).symm
theorem isType_impl (e : Int) (ss : List Pr) : FSpec env.P 114 [typLV e ss] (.bool (typB e ss)) := by
  refine FSpec_of_code env_ok (fn := Try.f114) Try.func114 rfl Try.call114 _ _ ?_
  ((repeat ((conv => whnf); first | refine brT ?_ | refine brF ?_)); conv => whnf)
  refine ⟨_, isSex_spec e, ?_⟩
  ((repeat ((conv => whnf); first | refine brT ?_ | refine brF ?_)); conv => whnf)
  (refine ⟨fun h => ?_, fun h => ?_⟩ <;> rw [h])
  rotate_left
  · rw [notB_f] at h
    have hE : (leI 0 e && leI e 2) = true := by rw [typB_sex, h]; rfl
    clear h
    ((repeat ((conv => whnf); first | refine brT ?_ | refine brF ?_)); conv => whnf)
    intro hp
    have hp' : ss.length ≤ Go.maxLen := by simpa using hp
    rw [List.length_map]
    ((repeat ((conv => whnf); first | refine brT ?_ | refine brF ?_)); conv => whnf)
    (refine ⟨fun h1 => ?_, fun h1 => ?_⟩ <;> rw [h1])
    · ((repeat ((conv => whnf); first | refine brT ?_ | refine brF ?_)); conv => whnf)
      exact fin (typB_l h1).symm
    have h8 : ss.length ≤ 8 := by rw [ltI_f] at h1; omega
    ((repeat ((conv => whnf); first | refine brT ?_ | refine brF ?_)); conv => whnf)
    refine ⟨_, sexesFrom_f e ss h8, ?_⟩
    ((repeat ((conv => whnf); first | refine brT ?_ | refine brF ?_)); conv => whnf)
    intro _
    rw [List.length_map, sexTo_len]
    ((repeat ((conv => whnf); first | refine brT ?_ | refine brF ?_)); conv => whnf)
    refine loop_rule (α := Nat) (fun k => [(26, .int .i64 (k : Int))]) (fun k => [.box (typLV e ss)]) (fun k => ss.length - k) (fun k => k ≤ ss.length ∧ stepsTo e ss k = true) 0 ⟨Nat.zero_le _, rfl⟩ ?_ ?_
    · refine ⟨?_, ⟨rfl, trivial⟩, rfl, rfl⟩
      ((repeat ((conv => whnf); refine ⟨rfl, ?_⟩)); trivial)
    rintro k ⟨hk, hs⟩
    ((repeat ((conv => whnf); first | refine brT ?_ | refine brF ?_)); conv => whnf)
    (refine ⟨fun g => ?_, fun g => ?_⟩ <;> rw [g])
    · have hlt : k < ss.length := by rw [ltI_t] at g; omega
      have e1 : LV.int .i64 (IntKind.i64.wrap ((k : Int) + 1)) = LV.int .i64 ((k + 1 : Nat) : Int) := step_i hlt hp'
      ((repeat ((conv => whnf); first | refine brT ?_ | refine brF ?_)); conv => whnf)
      refine ⟨k, intLV (sexAt e ss k), rfl, by rw [List.getElem?_map, sexTo_get hlt]; rfl, rfl, ?_⟩
      ((repeat ((conv => whnf); first | refine brT ?_ | refine brF ?_)); conv => whnf)
      refine ⟨k, ss[k].lv, rfl, by simp [hlt], rfl, ?_⟩
      ((repeat ((conv => whnf); first | refine brT ?_ | refine brF ?_)); conv => whnf)
      refine ⟨_, isStepFrom_spec _ ss[k], ?_⟩
      ((repeat ((conv => whnf); first | refine brT ?_ | refine brF ?_)); conv => whnf)
      (refine ⟨fun g2 => ?_, fun g2 => ?_⟩ <;> rw [g2])
      · rw [notB_t] at g2
        ((repeat ((conv => whnf); first | refine brT ?_ | refine brF ?_)); conv => whnf)
        exact fin (typB_s (stepsTo_no hlt hlt g2)).symm
      rw [notB_f] at g2
      ((repeat ((conv => whnf); first | refine brT ?_ | refine brF ?_)); conv => whnf)
      refine round_end (k + 1) ⟨hlt, stepsTo_succ hs hlt g2⟩ (by show ss.length - (k + 1) < ss.length - k; omega) ⟨?_, ⟨rfl, trivial⟩, rfl, rfl⟩
      ((repeat ((conv => whnf); first | refine ⟨e1, ?_⟩ | refine ⟨rfl, ?_⟩)); trivial)
    · have h3 : k = ss.length := by rw [ltI_f] at g; omega
      subst h3
      ((repeat ((conv => whnf); first | refine brT ?_ | refine brF ?_)); conv => whnf)
      exact fin (typB_y hE h1 hs).symm
  · rw [notB_t] at h
    ((repeat ((conv => whnf); first | refine brT ?_ | refine brF ?_)); conv => whnf)
    (refine ⟨fun h0 => ?_, fun h0 => ?_⟩ <;> rw [h0])
    · rw [notB_t] at h0
      have hE : (leI 0 e && leI e 2) = false := by rw [typB_sex, h, h0]; rfl
      ((repeat ((conv => whnf); first | refine brT ?_ | refine brF ?_)); conv => whnf)
      exact fin (typB_e hE).symm
    rw [notB_f] at h0
    have hE : (leI 0 e && leI e 2) = true := by rw [typB_sex, h, h0]; rfl
    clear h h0
    ((repeat ((conv => whnf); first | refine brT ?_ | refine brF ?_)); conv => whnf)
    intro hp
    have hp' : ss.length ≤ Go.maxLen := by simpa using hp
    rw [List.length_map]
    ((repeat ((conv => whnf); first | refine brT ?_ | refine brF ?_)); conv => whnf)
    (refine ⟨fun h1 => ?_, fun h1 => ?_⟩ <;> rw [h1])
    · ((repeat ((conv => whnf); first | refine brT ?_ | refine brF ?_)); conv => whnf)
      exact fin (typB_l h1).symm
    have h8 : ss.length ≤ 8 := by rw [ltI_f] at h1; omega
    ((repeat ((conv => whnf); first | refine brT ?_ | refine brF ?_)); conv => whnf)
    refine ⟨_, sexesFrom_f e ss h8, ?_⟩
    ((repeat ((conv => whnf); first | refine brT ?_ | refine brF ?_)); conv => whnf)
    intro _
    rw [List.length_map, sexTo_len]
    ((repeat ((conv => whnf); first | refine brT ?_ | refine brF ?_)); conv => whnf)
    refine loop_rule (α := Nat) (fun k => [(26, .int .i64 (k : Int))]) (fun k => [.box (typLV e ss)]) (fun k => ss.length - k) (fun k => k ≤ ss.length ∧ stepsTo e ss k = true) 0 ⟨Nat.zero_le _, rfl⟩ ?_ ?_
    · refine ⟨?_, ⟨rfl, trivial⟩, rfl, rfl⟩
      ((repeat ((conv => whnf); refine ⟨rfl, ?_⟩)); trivial)
    rintro k ⟨hk, hs⟩
    ((repeat ((conv => whnf); first | refine brT ?_ | refine brF ?_)); conv => whnf)
    (refine ⟨fun g => ?_, fun g => ?_⟩ <;> rw [g])
    · have hlt : k < ss.length := by rw [ltI_t] at g; omega
      have e1 : LV.int .i64 (IntKind.i64.wrap ((k : Int) + 1)) = LV.int .i64 ((k + 1 : Nat) : Int) := step_i hlt hp'
      ((repeat ((conv => whnf); first | refine brT ?_ | refine brF ?_)); conv => whnf)
      refine ⟨k, intLV (sexAt e ss k), rfl, by rw [List.getElem?_map, sexTo_get hlt]; rfl, rfl, ?_⟩
      ((repeat ((conv => whnf); first | refine brT ?_ | refine brF ?_)); conv => whnf)
      refine ⟨k, ss[k].lv, rfl, by simp [hlt], rfl, ?_⟩
      ((repeat ((conv => whnf); first | refine brT ?_ | refine brF ?_)); conv => whnf)
      refine ⟨_, isStepFrom_spec _ ss[k], ?_⟩
      ((repeat ((conv => whnf); first | refine brT ?_ | refine brF ?_)); conv => whnf)
      (refine ⟨fun g2 => ?_, fun g2 => ?_⟩ <;> rw [g2])
      · rw [notB_t] at g2
        ((repeat ((conv => whnf); first | refine brT ?_ | refine brF ?_)); conv => whnf)
        exact fin (typB_s (stepsTo_no hlt hlt g2)).symm
      rw [notB_f] at g2
      ((repeat ((conv => whnf); first | refine brT ?_ | refine brF ?_)); conv => whnf)
      refine round_end (k + 1) ⟨hlt, stepsTo_succ hs hlt g2⟩ (by show ss.length - (k + 1) < ss.length - k; omega) ⟨?_, ⟨rfl, trivial⟩, rfl, rfl⟩
      ((repeat ((conv => whnf); first | refine ⟨e1, ?_⟩ | refine ⟨rfl, ?_⟩)); trivial)
    · have h3 : k = ss.length := by rw [ltI_f] at g; omega
      subst h3
      ((repeat ((conv => whnf); first | refine brT ?_ | refine brF ?_)); conv => whnf)
      exact fin (typB_y hE h1 hs).symm
end Go.Proofs.Ytpfipmjmblgjfaa

namespace Go.Proofs.Ytpfipmjmblgjfaa
open Go.Lg
set_option maxHeartbeats 1600000
set_option maxRecDepth 10000
set_option linter.unusedVariables false
set_option linter.unusedSimpArgs false

theorem szT_ok {l : Int} {n : Nat} (h0 : 0 ≤ l) (h1 : l ≤ 1048576) (hn : n ≤ Go.maxLen) (h : 0 ≤ szT l n) : szT l n = l - n ∧ (n : Int) ≤ l ∧ ltI (szT l n) 0 = false ∧ 16 * n ≤ 281474976710656 ∧ ltI (szN l n) 0 = false := by
  unfold szT at h ⊢
  cases hh : ltI (szN l n) 0
  · rw [hh] at h
    simp only at h ⊢
    obtain ⟨a1, a2⟩ := szN_ok h0 h1 hn h
    exact ⟨a1, a2, hh, by omega, trivial⟩
  · rw [hh] at h
    simp only at h
    omega
abbrev shStep : Sh := .st [.int .i64, .int .i64]
abbrev shTyp : Sh := .st [.int .i64, .sl (.st [.int .i64, .int .i64])]
theorem step_of_sh {x : LV} (h : hasSh shStep x) : ∃ p : Pr, x = p.lv ∧ True := by
  obtain ⟨ps, h1⟩ := prs_of [x] fun y hy => by simp at hy; subst hy; exact h
  match ps, h1 with
  | [p], h1 => exact ⟨p, by simpa using h1, trivial⟩
  | [], h1 => simp at h1
  | _ :: _ :: _, h1 => simp at h1
theorem typ_of_sh {x : LV} (h : hasSh shTyp x) : ∃ (e : Int) (ss : List Pr), x = typLV e ss ∧ ss.length ≤ Go.maxLen := by
  simp only [hasSh] at h
  obtain ⟨xs, rfl, h⟩ := h
  match xs, h with
  | [a, b], h =>
    simp only [hasShs, hasSh] at h
    obtain ⟨⟨n, rfl⟩, ⟨ys, rfl, hl, hy⟩, _⟩ := h
    obtain ⟨ps, rfl⟩ := prs_of ys fun y hy' => by simp only [hasSh]; exact hy y hy'
    exact ⟨n, ps, rfl, by simpa using hl⟩
  | [], h => simp [hasShs] at h
  | [_], h => simp [hasShs] at h
  | _ :: _ :: _ :: _, h => simp [hasShs] at h

/-- The sex of ego. -/
def egoT (e : Int) (ss : List Pr) : Int := match eqI e 0 with
  | true => (match ss with | [] => e | s :: _ => match eqI s.a 7 with | true => 2 | false => match eqI s.a 8 with | true => 1 | false => e)
  | false => e
theorem l3Ego_spec (e : Int) (ss : List Pr) : FSpec env.P 110 [typLV e ss] (.int .i64 (egoT e ss)) := by
  refine FSpec_of_code env_ok (fn := Try.f110) Try.func110 rfl Try.call110 _ _ ?_
  ((repeat ((conv => whnf); first | refine brT ?_ | refine brF ?_)); conv => whnf)
  (refine ⟨fun h => ?_, fun h => ?_⟩ <;> rw [h])
  · ((repeat ((conv => whnf); first | refine brT ?_ | refine brF ?_)); conv => whnf)
    intro hp
    rw [List.length_map]
    ((repeat ((conv => whnf); first | refine brT ?_ | refine brF ?_)); conv => whnf)
    (refine ⟨fun h1 => ?_, fun h1 => ?_⟩ <;> rw [h1])
    · match ss, h1 with
      | s :: ss, h1 =>
        ((repeat ((conv => whnf); first | refine brT ?_ | refine brF ?_)); conv => whnf)
        refine ⟨0, s.lv, rfl, rfl, rfl, ?_⟩
        ((repeat ((conv => whnf); first | refine brT ?_ | refine brF ?_)); conv => whnf)
        (refine ⟨fun h2 => ?_, fun h2 => ?_⟩ <;> rw [h2])
        · ((repeat ((conv => whnf); first | refine brT ?_ | refine brF ?_)); conv => whnf); exact ⟨rfl, by simp only [egoT, h, h2], List.nodup_nil⟩
        ((repeat ((conv => whnf); first | refine brT ?_ | refine brF ?_)); conv => whnf)
        (refine ⟨fun h3 => ?_, fun h3 => ?_⟩ <;> rw [h3])
        · ((repeat ((conv => whnf); first | refine brT ?_ | refine brF ?_)); conv => whnf); exact ⟨rfl, by simp only [egoT, h, h2, h3], List.nodup_nil⟩
        · ((repeat ((conv => whnf); first | refine brT ?_ | refine brF ?_)); conv => whnf); exact ⟨rfl, by simp only [egoT, h, h2, h3], List.nodup_nil⟩
      | [], h1 => simp [ltI_t] at h1
    · match ss, h1 with
      | [], h1 => ((repeat ((conv => whnf); first | refine brT ?_ | refine brF ?_)); conv => whnf); exact ⟨rfl, by simp only [egoT, h], List.nodup_nil⟩
      | s :: ss, h1 => rw [ltI_f] at h1; simp at h1; omega
  · ((repeat ((conv => whnf); first | refine brT ?_ | refine brF ?_)); conv => whnf); exact ⟨rfl, by simp only [egoT, h], List.nodup_nil⟩
def egoR (e : Int) (ss : List Pr) : Int := match typB e ss with | true => egoT e ss | false => 0
theorem egoOfType_impl (e : Int) (ss : List Pr) : FSpec env.P 113 [typLV e ss] (.int .i64 (egoR e ss)) := by
  refine FSpec_of_code env_ok (fn := Try.f113) Try.func113 rfl Try.call113 _ _ ?_
  ((repeat ((conv => whnf); first | refine brT ?_ | refine brF ?_)); conv => whnf)
  refine ⟨_, isType_impl e ss, ?_⟩
  ((repeat ((conv => whnf); first | refine brT ?_ | refine brF ?_)); conv => whnf)
  (refine ⟨fun h => ?_, fun h => ?_⟩ <;> rw [h])
  · rw [notB_t] at h; ((repeat ((conv => whnf); first | refine brT ?_ | refine brF ?_)); conv => whnf); exact ⟨rfl, by simp only [egoR, h], List.nodup_nil⟩
  rw [notB_f] at h
  ((repeat ((conv => whnf); first | refine brT ?_ | refine brF ?_)); conv => whnf)
  (refine ⟨fun h0 => ?_, fun h0 => ?_⟩ <;> rw [h0])
  · rw [notB_t] at h0; ((repeat ((conv => whnf); first | refine brT ?_ | refine brF ?_)); conv => whnf); exact ⟨rfl, by simp only [egoR, h, egoT, h0], List.nodup_nil⟩
  rw [notB_f] at h0
  ((repeat ((conv => whnf); first | refine brT ?_ | refine brF ?_)); conv => whnf)
  intro hp
  rw [List.length_map]
  ((repeat ((conv => whnf); first | refine brT ?_ | refine brF ?_)); conv => whnf)
  (refine ⟨fun h1 => ?_, fun h1 => ?_⟩ <;> rw [h1])
  · match ss, h1 with
    | [], h1 => ((repeat ((conv => whnf); first | refine brT ?_ | refine brF ?_)); conv => whnf); exact ⟨rfl, by simp only [egoR, h, egoT, h0], List.nodup_nil⟩
    | s :: ss, h1 => rw [eqI_t] at h1; simp at h1; omega
  · match ss, h1 with
    | s :: ss, h1 =>
      ((repeat ((conv => whnf); first | refine brT ?_ | refine brF ?_)); conv => whnf)
      refine ⟨0, s.lv, rfl, rfl, rfl, ?_⟩
      ((repeat ((conv => whnf); first | refine brT ?_ | refine brF ?_)); conv => whnf)
      (refine ⟨fun h2 => ?_, fun h2 => ?_⟩ <;> rw [h2])
      · ((repeat ((conv => whnf); first | refine brT ?_ | refine brF ?_)); conv => whnf); exact ⟨rfl, by simp only [egoR, h, egoT, h0, h2], List.nodup_nil⟩
      ((repeat ((conv => whnf); first | refine brT ?_ | refine brF ?_)); conv => whnf)
      (refine ⟨fun h3 => ?_, fun h3 => ?_⟩ <;> rw [h3])
      · ((repeat ((conv => whnf); first | refine brT ?_ | refine brF ?_)); conv => whnf); exact ⟨rfl, by simp only [egoR, h, egoT, h0, h2, h3], List.nodup_nil⟩
      · ((repeat ((conv => whnf); first | refine brT ?_ | refine brF ?_)); conv => whnf); exact ⟨rfl, by simp only [egoR, h, egoT, h0, h2, h3]; rw [eqI_t] at h0; rw [h0], List.nodup_nil⟩
    | [], h1 => simp [eqI_f] at h1
/-- The sex of whom a type leads to. -/
def lastT (e : Int) (ss : List Pr) : Int := match ss.getLast? with | some s => sxOf s.a | none => e
theorem lastT_at {e : Int} {ss : List Pr} (h : 0 < ss.length) : lastT e ss = sxOf (ss[ss.length - 1]'(by omega)).a := by
  unfold lastT
  rw [List.getLast?_eq_getElem?, List.getElem?_eq_getElem (by omega)]
theorem l3Last_spec (e : Int) (ss : List Pr) : FSpec env.P 120 [typLV e ss] (.int .i64 (lastT e ss)) := by
  refine FSpec_of_code env_ok (fn := Try.f120) Try.func120 rfl Try.call120 _ _ ?_
  ((repeat ((conv => whnf); first | refine brT ?_ | refine brF ?_)); conv => whnf)
  intro hp
  have hp' : ss.length ≤ Go.maxLen := by simpa using hp
  rw [List.length_map]
  ((repeat ((conv => whnf); first | refine brT ?_ | refine brF ?_)); conv => whnf)
  (refine ⟨fun h1 => ?_, fun h1 => ?_⟩ <;> rw [h1])
  · have : ss = [] := List.eq_nil_of_length_eq_zero (by rw [eqI_t] at h1; omega)
    subst this
    ((repeat ((conv => whnf); first | refine brT ?_ | refine brF ?_)); conv => whnf)
    exact ⟨rfl, rfl, List.nodup_nil⟩
  have hpos : 0 < ss.length := by rw [eqI_f] at h1; omega
  ((repeat ((conv => whnf); first | refine brT ?_ | refine brF ?_)); conv => whnf)
  intro _
  rw [List.length_map]
  ((repeat ((conv => whnf); first | refine brT ?_ | refine brF ?_)); conv => whnf)
  have e1 : IntKind.i64.wrap ((ss.length : Int) - 1) = ((ss.length - 1 : Nat) : Int) := by unfold Go.maxLen at hp'; rw [wrap64 (by omega) (by omega)]; omega
  refine ⟨ss.length - 1, (ss[ss.length - 1]'(by omega)).lv, e1, by rw [List.getElem?_map, List.getElem?_eq_getElem (by omega)]; rfl, rfl, ?_⟩
  ((repeat ((conv => whnf); first | refine brT ?_ | refine brF ?_)); conv => whnf)
  refine ⟨_, l3Sex_spec _, ?_⟩
  ((repeat ((conv => whnf); first | refine brT ?_ | refine brF ?_)); conv => whnf)
  exact ⟨rfl, by rw [lastT_at hpos], List.nodup_nil⟩
def sexR (e : Int) (ss : List Pr) : Int := match typB e ss with | true => lastT e ss | false => 0
theorem sexOfType_impl (e : Int) (ss : List Pr) : FSpec env.P 123 [typLV e ss] (.int .i64 (sexR e ss)) := by
  refine FSpec_of_code env_ok (fn := Try.f123) Try.func123 rfl Try.call123 _ _ ?_
  ((repeat ((conv => whnf); first | refine brT ?_ | refine brF ?_)); conv => whnf)
  refine ⟨_, isType_impl e ss, ?_⟩
  ((repeat ((conv => whnf); first | refine brT ?_ | refine brF ?_)); conv => whnf)
  (refine ⟨fun h => ?_, fun h => ?_⟩ <;> rw [h])
  · rw [notB_t] at h; ((repeat ((conv => whnf); first | refine brT ?_ | refine brF ?_)); conv => whnf); exact ⟨rfl, by simp only [sexR, h], List.nodup_nil⟩
  rw [notB_f] at h
  ((repeat ((conv => whnf); first | refine brT ?_ | refine brF ?_)); conv => whnf)
  intro hp
  have hp' : ss.length ≤ Go.maxLen := by simpa using hp
  rw [List.length_map]
  ((repeat ((conv => whnf); first | refine brT ?_ | refine brF ?_)); conv => whnf)
  (refine ⟨fun h1 => ?_, fun h1 => ?_⟩ <;> rw [h1])
  · have : ss = [] := List.eq_nil_of_length_eq_zero (by rw [eqI_t] at h1; omega)
    subst this
    ((repeat ((conv => whnf); first | refine brT ?_ | refine brF ?_)); conv => whnf)
    exact ⟨rfl, by simp only [sexR, h]; rfl, List.nodup_nil⟩
  have hpos : 0 < ss.length := by rw [eqI_f] at h1; omega
  ((repeat ((conv => whnf); first | refine brT ?_ | refine brF ?_)); conv => whnf)
  intro _
  rw [List.length_map]
  ((repeat ((conv => whnf); first | refine brT ?_ | refine brF ?_)); conv => whnf)
  have e1 : IntKind.i64.wrap ((ss.length : Int) - 1) = ((ss.length - 1 : Nat) : Int) := by unfold Go.maxLen at hp'; rw [wrap64 (by omega) (by omega)]; omega
  refine ⟨ss.length - 1, (ss[ss.length - 1]'(by omega)).lv, e1, by rw [List.getElem?_map, List.getElem?_eq_getElem (by omega)]; rfl, rfl, ?_⟩
  ((repeat ((conv => whnf); first | refine brT ?_ | refine brF ?_)); conv => whnf)
  refine ⟨_, sexOfStep_spec _, ?_⟩
  ((repeat ((conv => whnf); first | refine brT ?_ | refine brF ?_)); conv => whnf)
  exact ⟨rfl, by simp only [sexR, h]; rw [lastT_at hpos], List.nodup_nil⟩

theorem stEq (p q : Pr) : eqAll [LV.int .i64 p.a, LV.int .i64 p.b] [LV.int .i64 q.a, LV.int .i64 q.b] = p.eq q := by
  show (eqI p.a q.a && (eqI p.b q.b && true)) = _
  simp [Pr.eq]
theorem slicesEqual_spec (ps qs : List Pr) : FSpec env.P 211 [.sl (ps.map Pr.lv), .sl (qs.map Pr.lv)] (.bool (eqList Pr.eq ps qs)) := by
  refine FSpec_of_code env_ok (fn := Try.f211) Try.func211 rfl Try.call211 _ _ ?_
  ((repeat ((conv => whnf); first | refine brT ?_ | refine brF ?_)); conv => whnf)
  intro hp
  ((repeat ((conv => whnf); first | refine brT ?_ | refine brF ?_)); conv => whnf)
  intro hq
  ((repeat ((conv => whnf); first | refine brT ?_ | refine brF ?_)); conv => whnf)
  (refine ⟨fun h => ?_, fun h => ?_⟩ <;> rw [h])
  · ((repeat ((conv => whnf); first | refine brT ?_ | refine brF ?_)); conv => whnf)
    refine fin ?_
    rw [notB_t] at h
    rw [eqList_len (eqI_nolen h)]
  rw [notB_f] at h
  have hl := eqI_len h
  have hp' : ps.length ≤ Go.maxLen := by simpa using hp
  ((repeat ((conv => whnf); first | refine brT ?_ | refine brF ?_)); conv => whnf)
  intro _
  ((repeat ((conv => whnf); first | refine brT ?_ | refine brF ?_)); conv => whnf)
  refine loop_rule (α := Nat) (fun k => [(13, .int .i64 (k : Int))]) (fun _ => []) (fun k => ps.length - k) (fun k => k ≤ ps.length ∧ eqTo Pr.eq ps qs k) 0 ⟨Nat.zero_le _, fun _ _ _ h => absurd h (Nat.not_lt_zero _)⟩ ?_ ?_
  · refine ⟨?_, trivial, rfl, rfl⟩
    ((repeat ((conv => whnf); refine ⟨rfl, ?_⟩)); trivial)
  rintro k ⟨hk, he⟩
  ((repeat ((conv => whnf); first | refine brT ?_ | refine brF ?_)); conv => whnf)
  (refine ⟨fun h1 => ?_, fun h1 => ?_⟩ <;> rw [h1])
  · have hlt : k < ps.length := by rw [ltI_t] at h1; simp at h1; omega
    have hlt2 : k < qs.length := by omega
    ((repeat ((conv => whnf); first | refine brT ?_ | refine brF ?_)); conv => whnf)
    refine ⟨true, by kernel_rfl, ?_⟩
    ((repeat ((conv => whnf); first | refine brT ?_ | refine brF ?_)); conv => whnf)
    refine ⟨k, ps[k].lv, rfl, by simp [hlt], rfl, ?_⟩
    ((repeat ((conv => whnf); first | refine brT ?_ | refine brF ?_)); conv => whnf)
    refine ⟨k, qs[k].lv, rfl, by simp [hlt2], rfl, ?_⟩
    ((repeat ((conv => whnf); first | refine brT ?_ | refine brF ?_)); conv => whnf)
    rw [stEq]
    (refine ⟨fun h3 => ?_, fun h3 => ?_⟩ <;> rw [h3])
    · rw [notB_t] at h3
      ((repeat ((conv => whnf); first | refine brT ?_ | refine brF ?_)); conv => whnf)
      refine fin ?_
      rw [eqList_no (k := k) (x := ps[k]) (y := qs[k]) (by simp [hlt]) (by simp [hlt2]) h3]
    · rw [notB_f] at h3
      ((repeat ((conv => whnf); first | refine brT ?_ | refine brF ?_)); conv => whnf)
      refine round_end (k + 1) ⟨hlt, he.succ (x := ps[k]) (y := qs[k]) (by simp [hlt]) (by simp [hlt2]) h3⟩ (by omega) ⟨?_, trivial, rfl, rfl⟩
      have e := step_i hlt hp'
      ((repeat ((conv => whnf); first | refine ⟨e, ?_⟩ | refine ⟨rfl, ?_⟩)); trivial)
  · have h3 : ps.length ≤ k := by rw [ltI_f] at h1; simp at h1; omega
    have h4 : k = ps.length := by omega
    subst h4
    ((repeat ((conv => whnf); first | refine brT ?_ | refine brF ?_)); conv => whnf)
    refine fin ?_
    rw [eqTo.all hl he]
theorem l3Steps_spec (ps qs : List Pr) : FSpec env.P 227 [.sl (ps.map Pr.lv), .sl (qs.map Pr.lv)] (.bool (eqList Pr.eq ps qs)) := by
  refine FSpec_of_code env_ok (fn := Try.f227) Try.func227 rfl Try.call227 _ _ ?_
  ((repeat ((conv => whnf); first | refine brT ?_ | refine brF ?_)); conv => whnf)
  intro hp
  ((repeat ((conv => whnf); first | refine brT ?_ | refine brF ?_)); conv => whnf)
  intro hq
  ((repeat ((conv => whnf); first | refine brT ?_ | refine brF ?_)); conv => whnf)
  (refine ⟨fun h => ?_, fun h => ?_⟩ <;> rw [h])
  · ((repeat ((conv => whnf); first | refine brT ?_ | refine brF ?_)); conv => whnf)
    refine fin ?_
    rw [notB_t] at h
    rw [eqList_len (eqI_nolen h)]
  rw [notB_f] at h
  have hl := eqI_len h
  have hp' : ps.length ≤ Go.maxLen := by simpa using hp
  ((repeat ((conv => whnf); first | refine brT ?_ | refine brF ?_)); conv => whnf)
  intro _
  ((repeat ((conv => whnf); first | refine brT ?_ | refine brF ?_)); conv => whnf)
  refine loop_rule (α := Nat) (fun k => [(13, .int .i64 (k : Int))]) (fun _ => []) (fun k => ps.length - k) (fun k => k ≤ ps.length ∧ eqTo Pr.eq ps qs k) 0 ⟨Nat.zero_le _, fun _ _ _ h => absurd h (Nat.not_lt_zero _)⟩ ?_ ?_
  · refine ⟨?_, trivial, rfl, rfl⟩
    ((repeat ((conv => whnf); refine ⟨rfl, ?_⟩)); trivial)
  rintro k ⟨hk, he⟩
  ((repeat ((conv => whnf); first | refine brT ?_ | refine brF ?_)); conv => whnf)
  (refine ⟨fun h1 => ?_, fun h1 => ?_⟩ <;> rw [h1])
  · have hlt : k < ps.length := by rw [ltI_t] at h1; simp at h1; omega
    have hlt2 : k < qs.length := by omega
    ((repeat ((conv => whnf); first | refine brT ?_ | refine brF ?_)); conv => whnf)
    refine ⟨true, by kernel_rfl, ?_⟩
    ((repeat ((conv => whnf); first | refine brT ?_ | refine brF ?_)); conv => whnf)
    refine ⟨k, ps[k].lv, rfl, by simp [hlt], rfl, ?_⟩
    ((repeat ((conv => whnf); first | refine brT ?_ | refine brF ?_)); conv => whnf)
    refine ⟨k, qs[k].lv, rfl, by simp [hlt2], rfl, ?_⟩
    ((repeat ((conv => whnf); first | refine brT ?_ | refine brF ?_)); conv => whnf)
    rw [stEq]
    (refine ⟨fun h3 => ?_, fun h3 => ?_⟩ <;> rw [h3])
    · rw [notB_t] at h3
      ((repeat ((conv => whnf); first | refine brT ?_ | refine brF ?_)); conv => whnf)
      refine fin ?_
      rw [eqList_no (k := k) (x := ps[k]) (y := qs[k]) (by simp [hlt]) (by simp [hlt2]) h3]
    · rw [notB_f] at h3
      ((repeat ((conv => whnf); first | refine brT ?_ | refine brF ?_)); conv => whnf)
      refine round_end (k + 1) ⟨hlt, he.succ (x := ps[k]) (y := qs[k]) (by simp [hlt]) (by simp [hlt2]) h3⟩ (by omega) ⟨?_, trivial, rfl, rfl⟩
      have e := step_i hlt hp'
      ((repeat ((conv => whnf); first | refine ⟨e, ?_⟩ | refine ⟨rfl, ?_⟩)); trivial)
  · have h3 : ps.length ≤ k := by rw [ltI_f] at h1; simp at h1; omega
    have h4 : k = ps.length := by omega
    subst h4
    ((repeat ((conv => whnf); first | refine brT ?_ | refine brF ?_)); conv => whnf)
    refine fin ?_
    rw [eqTo.all hl he]
theorem equalTypes_spec (e : Int) (ss : List Pr) (f : Int) (ts : List Pr) : FSpec env.P 205 [typLV e ss, typLV f ts] (.bool (eqTyp e ss f ts)) := by
  refine FSpec_of_code env_ok (fn := Try.f205) Try.func205 rfl Try.call205 _ _ ?_
  ((repeat' (((repeat ((conv => whnf); first | refine brT ?_ | refine brF ?_)); conv => whnf); first | (refine And.intro ?_ ?_ <;> (intro h; rw [h]; revert h; intro _)) | (refine Exists.intro true (And.intro (a := drawB _ _ = true) (by kernel_rfl) ?_)) | (refine Exists.intro _ (And.intro (l3Steps_spec ss ts) ?_)))); all_goals ((repeat ((conv => whnf); first | refine brT ?_ | refine brF ?_)); conv => whnf))
  all_goals (refine fin ?_; simp_all [eqTyp, notB])
theorem equalTypes_impl (e : Int) (ss : List Pr) (f : Int) (ts : List Pr) : FSpec env.P 183 [typLV e ss, typLV f ts] (.bool (eqTyp e ss f ts)) := by
  refine FSpec_of_code env_ok (fn := Try.f183) Try.func183 rfl Try.call183 _ _ ?_
  ((repeat' (((repeat ((conv => whnf); first | refine brT ?_ | refine brF ?_)); conv => whnf); first | (refine And.intro ?_ ?_ <;> (intro h; rw [h]; revert h; intro _)) | (refine Exists.intro true (And.intro (a := drawB _ _ = true) (by kernel_rfl) ?_)) | (refine Exists.intro _ (And.intro (slicesEqual_spec ss ts) ?_)))); all_goals ((repeat ((conv => whnf); first | refine brT ?_ | refine brF ?_)); conv => whnf))
  all_goals (refine fin ?_; simp_all [eqTyp, notB])
end Go.Proofs.Ytpfipmjmblgjfaa

namespace Go.Proofs.Ytpfipmjmblgjfaa
open Go.Lg Go.Pm
set_option maxHeartbeats 3200000
set_option maxRecDepth 10000
set_option linter.unusedVariables false
set_option linter.unusedSimpArgs false

/-! ### Classes -/
def clsLV (w c : List Int) : LV := .st [rowSl w, rowSl c]
def clsHS (n m : Nat) : LV := .st [.hs 0 n, .hs 1 m]
def clsH (w c : List Int) : List Blk := [.arr 3 1 (w.map intLV), .arr 3 1 (c.map intLV)]
theorem toClasses_h (w c : List Int) (hw : 8 * w.length ≤ 281474976710656) (hc : 8 * c.length ≤ 281474976710656) : HSpec env.P 36 [clsLV w c] [] (clsHS (w.map intLV).length (c.map intLV).length) (clsH w c) := by
  refine HSpec_of_code (E := env.x [25] 0) env_ok.x (fn := Try.f36) Try.func36 rfl Try.call36 _ _ _ _ ?_
  ((repeat ((conv => whnf); first | refine brT ?_ | refine brF ?_)); conv => whnf)
  refine ⟨[], _, _, _, _, toIntS_h w hw, rfl, rfl, rfl, trivial, ?_⟩
  ((repeat ((conv => whnf); first | refine brT ?_ | refine brF ?_)); conv => whnf)
  refine ⟨[], _, _, _, _, toIntS_h c hc, rfl, rfl, rfl, trivial, ?_⟩
  ((repeat ((conv => whnf); first | refine brT ?_ | refine brF ?_)); conv => whnf)
  refine ⟨[clsHS (w.map intLV).length (c.map intLV).length], rfl, rfl, .inr ⟨[.old 3, .old 4], ?_, ?_, rfl⟩⟩
  · ((repeat ((conv => whnf); refine ⟨rfl, rfl, ?_⟩)); trivial)
  · exact ⟨rfl, rfl, rfl, rfl, trivial⟩
theorem toClasses_f (w c : List Int) (hw : 8 * w.length ≤ 281474976710656) (hc : 8 * c.length ≤ 281474976710656) : FSpec env.P 36 [clsLV w c] (clsLV w c) := by
  refine FSpec_of_code env_ok (fn := Try.f36) Try.func36 rfl Try.call36 _ _ ?_
  ((repeat ((conv => whnf); first | refine brT ?_ | refine brF ?_)); conv => whnf)
  refine ⟨_, toIntS_f w hw, ?_⟩
  ((repeat ((conv => whnf); first | refine brT ?_ | refine brF ?_)); conv => whnf)
  refine ⟨_, toIntS_f c hc, ?_⟩
  ((repeat ((conv => whnf); first | refine brT ?_ | refine brF ?_)); conv => whnf)
  refine ⟨_, rfl, rfl, rfl, ?_⟩
  exact ⟨rfl, by simp [exsW]⟩
def eqCls (a b c d : List Int) : Bool := eqList eqI a c && eqList eqI b d
theorem eqCls_refl (a b : List Int) : eqCls a b a b = true := by simp [eqCls, eqIntS_refl]
theorem eqClasses_spec (a b c d : List Int) : FSpec env.P 38 [clsLV a b, clsLV c d] (.bool (eqCls a b c d)) := by
  refine FSpec_of_code env_ok (fn := Try.f38) Try.func38 rfl Try.call38 _ _ ?_
  ((repeat' (((repeat ((conv => whnf); first | refine brT ?_ | refine brF ?_)); conv => whnf); first | (refine And.intro ?_ ?_ <;> (intro h; rw [h]; revert h; intro _)) | (refine Exists.intro true (And.intro (a := drawB _ _ = true) (by kernel_rfl) ?_)) | (refine Exists.intro _ (And.intro (eqIntS_spec a c) ?_)) | (refine Exists.intro _ (And.intro (eqIntS_spec b d) ?_)))); all_goals ((repeat ((conv => whnf); first | refine brT ?_ | refine brF ?_)); conv => whnf))
  all_goals (refine fin ?_; simp_all [eqCls, notB])
def szC (l : Int) (n m : Nat) : Int := match ltI (szN l n) 0 with | true => -1 | false => szN (szN l n) m
theorem szM_neg {l : Int} {n : Nat} (h : 0 ≤ szN l n → False) : szN l n = -1 := by
  unfold szN at h ⊢
  cases h2 : ltI (IntKind.i64.wrap (l - (n : Int))) 0 <;> rw [h2] at h <;> simp only at h ⊢
  rw [ltI_f] at h2; exact (h h2).elim
theorem szC_ok {l : Int} {n m : Nat} (h0 : 0 ≤ l) (h1 : l ≤ 1048576) (hn : n ≤ Go.maxLen) (hm : m ≤ Go.maxLen) (h : 0 ≤ szC l n m) : szC l n m = l - n - m ∧ (n : Int) + m ≤ l := by
  unfold szC at h ⊢
  cases h2 : ltI (szN l n) 0 <;> rw [h2] at h <;> simp only at h ⊢
  · rw [ltI_f] at h2
    obtain ⟨e1, e2⟩ := szN_ok h0 h1 hn h2
    rw [e1] at h ⊢
    obtain ⟨e3, e4⟩ := szN_ok (by omega) (by omega) hm h
    omega
  · omega
theorem szClasses_spec (w c : List Int) (l : Int) : FSpec env.P 34 [clsLV w c, .int .i64 l] (.int .i64 (szC l w.length c.length)) := by
  refine FSpec_of_code env_ok (fn := Try.f34) Try.func34 rfl Try.call34 _ _ ?_
  ((repeat ((conv => whnf); first | refine brT ?_ | refine brF ?_)); conv => whnf)
  refine ⟨_, szIntS_spec w l, ?_⟩
  ((repeat ((conv => whnf); first | refine brT ?_ | refine brF ?_)); conv => whnf)
  (refine ⟨fun h => ?_, fun h => ?_⟩ <;> rw [h])
  · ((repeat ((conv => whnf); first | refine brT ?_ | refine brF ?_)); conv => whnf); exact ⟨rfl, by unfold szC; rw [h], List.nodup_nil⟩
  ((repeat ((conv => whnf); first | refine brT ?_ | refine brF ?_)); conv => whnf)
  refine ⟨_, szIntS_spec c (szN l w.length), ?_⟩
  ((repeat ((conv => whnf); first | refine brT ?_ | refine brF ?_)); conv => whnf)
  (refine ⟨fun h2 => ?_, fun h2 => ?_⟩ <;> rw [h2])
  · have e : szN (szN l w.length) c.length = -1 := szM_neg fun h3 => by rw [ltI_t] at h2; omega
    ((repeat ((conv => whnf); first | refine brT ?_ | refine brF ?_)); conv => whnf); exact ⟨rfl, by unfold szC; rw [h]; exact e.symm, List.nodup_nil⟩
  · ((repeat ((conv => whnf); first | refine brT ?_ | refine brF ?_)); conv => whnf); exact ⟨rfl, by unfold szC; rw [h], List.nodup_nil⟩
theorem markClasses_spec (w c : List Int) (n m : Nat) (hn : n = (w.map intLV).length) (hm : m = (c.map intLV).length) (k : Int) (h0 : 0 ≤ k) (h1 : k + w.length + c.length ≤ 4611686018427387904) :
    HSpec env.P 43 [clsHS n m, .int .i64 k] (clsH w c) (.int .i64 (k + w.length + c.length)) [.arr 3 1 ((marks k w.length).map intLV), .arr 3 1 ((marks (k + w.length) c.length).map intLV)] := by
  unfold clsH
  refine HSpec_of_code (E := env.x [30] 2) env_ok.x (fn := Try.f43) Try.func43 rfl Try.call43 _ _ _ _ ?_
  ((repeat ((conv => whnf); first | refine brT ?_ | refine brF ?_)); conv => whnf)
  refine ⟨[0], _, _, _, _, markIntS_spec w n hn k h0 (by omega), rfl, rfl, rfl, trivial, ?_⟩
  ((repeat ((conv => whnf); first | refine brT ?_ | refine brF ?_)); conv => whnf)
  refine ⟨[1], _, _, _, _, markIntS_spec c m hm (k + w.length) (by omega) (by omega), rfl, rfl, rfl, trivial, ?_⟩
  ((repeat ((conv => whnf); first | refine brT ?_ | refine brF ?_)); conv => whnf)
  exact ⟨[.int .i64 (k + w.length + c.length)], rfl, rfl, .inl ⟨⟨rfl, trivial⟩, ⟨rfl, rfl, trivial⟩, rfl, rfl⟩⟩
theorem heldClasses_spec (k : Int) (n m : Nat) (h0 : 0 ≤ k) (h1 : k + n + m ≤ 4611686018427387904) : FSpec env.P 44 [clsLV (marks k n) (marks (k + n) m), .int .i64 k] (.int .i64 (k + n + m)) := by
  refine FSpec_of_code env_ok (fn := Try.f44) Try.func44 rfl Try.call44 _ _ ?_
  ((repeat ((conv => whnf); first | refine brT ?_ | refine brF ?_)); conv => whnf)
  refine ⟨_, heldIntS_spec k n h0 (by omega), ?_⟩
  ((repeat ((conv => whnf); first | refine brT ?_ | refine brF ?_)); conv => whnf)
  rw [show ltI (k + (n : Int)) 0 = false by rw [ltI_f]; omega]
  ((repeat ((conv => whnf); first | refine brT ?_ | refine brF ?_)); conv => whnf)
  refine ⟨_, heldIntS_spec (k + n) m (by omega) (by omega), ?_⟩
  ((repeat ((conv => whnf); first | refine brT ?_ | refine brF ?_)); conv => whnf)
  rw [show ltI (k + (n : Int) + (m : Int)) 0 = false by rw [ltI_f]; omega]
  ((repeat ((conv => whnf); first | refine brT ?_ | refine brF ?_)); conv => whnf)
  exact ⟨rfl, rfl, List.nodup_nil⟩
def clsB (w c : List Int) : Bool := leI 1 (w.length : Int) && (leI (w.length : Int) 8 && (eqI (c.length : Int) (w.length : Int) && (permB w && permB c)))
theorem clsB_at {w c : List Int} (h : clsB w c = true) : 1 ≤ w.length ∧ w.length ≤ 8 ∧ c.length = w.length ∧ permB w = true ∧ permB c = true := by
  unfold clsB at h
  simp only [Bool.and_eq_true, leI_t, eqI_t] at h
  obtain ⟨h1, h2, h3, h4, h5⟩ := h
  exact ⟨by omega, by omega, by omega, h4, h5⟩
theorem isClasses_impl (w c : List Int) (hw : w.length ≤ 1048576) (hc : c.length ≤ 1048576) : FSpec env.P 37 [clsLV w c] (.bool (clsB w c)) := by
  refine FSpec_of_code env_ok (fn := Try.f37) Try.func37 rfl Try.call37 _ _ ?_
  have hl : ((w.map intLV).length : Int) = (w.length : Int) := by simp
  have hl2 : ((c.map intLV).length : Int) = (c.length : Int) := by simp
  unfold clsB
  ((repeat ((conv => whnf); first | refine brT ?_ | refine brF ?_)); conv => whnf)
  intro _
  ((repeat ((conv => whnf); first | refine brT ?_ | refine brF ?_)); conv => whnf)
  rw [hl]
  (refine ⟨fun h1 => ?_, fun h1 => ?_⟩ <;> rw [h1])
  rotate_left
  · ((repeat ((conv => whnf); first | refine brT ?_ | refine brF ?_)); conv => whnf); exact fin rfl
  ((repeat ((conv => whnf); first | refine brT ?_ | refine brF ?_)); conv => whnf)
  (refine ⟨fun h2 => ?_, fun h2 => ?_⟩ <;> rw [h2])
  rotate_left
  · ((repeat ((conv => whnf); first | refine brT ?_ | refine brF ?_)); conv => whnf); exact fin rfl
  ((repeat ((conv => whnf); first | refine brT ?_ | refine brF ?_)); conv => whnf)
  intro _
  ((repeat ((conv => whnf); first | refine brT ?_ | refine brF ?_)); conv => whnf)
  rw [hl2]
  (refine ⟨fun h3 => ?_, fun h3 => ?_⟩ <;> rw [h3])
  rotate_left
  · ((repeat ((conv => whnf); first | refine brT ?_ | refine brF ?_)); conv => whnf); exact fin rfl
  ((repeat ((conv => whnf); first | refine brT ?_ | refine brF ?_)); conv => whnf)
  refine ⟨_, isPerm_impl w (by omega), ?_⟩
  ((repeat ((conv => whnf); first | refine brT ?_ | refine brF ?_)); conv => whnf)
  (refine ⟨fun h4 => ?_, fun h4 => ?_⟩ <;> rw [h4])
  rotate_left
  · ((repeat ((conv => whnf); first | refine brT ?_ | refine brF ?_)); conv => whnf); exact fin rfl
  ((repeat ((conv => whnf); first | refine brT ?_ | refine brF ?_)); conv => whnf)
  refine ⟨_, isPerm_impl c (by omega), ?_⟩
  ((repeat ((conv => whnf); first | refine brT ?_ | refine brF ?_)); conv => whnf)
  exact fin rfl
theorem isClasses_spec (w c : List Int) (hw : w.length ≤ 1048576) (hc : c.length ≤ 1048576) : FSpec env.P 35 [clsLV w c] (.bool (clsB w c)) := by
  refine FSpec_of_code env_ok (fn := Try.f35) Try.func35 rfl Try.call35 _ _ ?_
  have hl : ((w.map intLV).length : Int) = (w.length : Int) := by simp
  have hl2 : ((c.map intLV).length : Int) = (c.length : Int) := by simp
  have e0 : clsB w c = ((leI 1 (w.length : Int) && leI (w.length : Int) 8) && (eqI (w.length : Int) (c.length : Int) && (permB w && permB c))) := by
    unfold clsB
    rw [show eqI (w.length : Int) (c.length : Int) = eqI (c.length : Int) (w.length : Int) by simp only [eqI_d]; exact decide_eq_decide.2 eq_comm, Bool.and_assoc]
  rw [e0]
  ((repeat ((conv => whnf); first | refine brT ?_ | refine brF ?_)); conv => whnf)
  intro _
  ((repeat ((conv => whnf); first | refine brT ?_ | refine brF ?_)); conv => whnf)
  refine ⟨_, l1In_spec _ _ _, ?_⟩
  ((repeat ((conv => whnf); first | refine brT ?_ | refine brF ?_)); conv => whnf)
  rw [hl]
  (refine ⟨fun h1 => ?_, fun h1 => ?_⟩ <;> rw [h1])
  rotate_left
  · ((repeat ((conv => whnf); first | refine brT ?_ | refine brF ?_)); conv => whnf); refine fin ?_; simp
  ((repeat ((conv => whnf); first | refine brT ?_ | refine brF ?_)); conv => whnf)
  intro _
  ((repeat ((conv => whnf); first | refine brT ?_ | refine brF ?_)); conv => whnf)
  intro _
  ((repeat ((conv => whnf); first | refine brT ?_ | refine brF ?_)); conv => whnf)
  rw [hl, hl2]
  (refine ⟨fun h3 => ?_, fun h3 => ?_⟩ <;> rw [h3])
  rotate_left
  · ((repeat ((conv => whnf); first | refine brT ?_ | refine brF ?_)); conv => whnf); refine fin ?_; simp
  ((repeat ((conv => whnf); first | refine brT ?_ | refine brF ?_)); conv => whnf)
  refine ⟨_, isPerm_spec w (by omega), ?_⟩
  ((repeat ((conv => whnf); first | refine brT ?_ | refine brF ?_)); conv => whnf)
  (refine ⟨fun h4 => ?_, fun h4 => ?_⟩ <;> rw [h4])
  rotate_left
  · ((repeat ((conv => whnf); first | refine brT ?_ | refine brF ?_)); conv => whnf); refine fin ?_; simp
  ((repeat ((conv => whnf); first | refine brT ?_ | refine brF ?_)); conv => whnf)
  refine ⟨_, isPerm_spec c (by omega), ?_⟩
  ((repeat ((conv => whnf); first | refine brT ?_ | refine brF ?_)); conv => whnf)
  refine fin ?_; simp
end Go.Proofs.Ytpfipmjmblgjfaa
