/- Contracts of functions of the program and of its model, told over readings. -/
import Derived.Test.YtfdjeflnjciloaaBT9
import Derived.Test.YtfdjeflnjciloaaBT2
import Derived.Test.YtfdjeflnjciloaaBLgN
namespace Go.Proofs.Ytfdjeflnjciloaa
open Go.Lg
set_option maxHeartbeats 800000
set_option maxRecDepth 10000
set_option linter.unusedVariables false
set_option linter.unusedSimpArgs false

def iLV (n : Int) : LV := .int .i64 n
/-- k, k + 1, .. -/
def marks (k : Int) : Nat → List Int
  | 0 => []
  | n + 1 => marks k n ++ [k + n]
theorem marks_len (k : Int) : ∀ n, (marks k n).length = n
  | 0 => rfl
  | n + 1 => by simp [marks, marks_len k n]
theorem marks_get (k : Int) : ∀ (n i : Nat) (h : i < (marks k n).length), (marks k n)[i] = k + i
  | 0, i, h => by simp [marks] at h
  | n + 1, i, h => by
    simp only [marks]
    have hl := marks_len k n
    by_cases hi : i < n
    · rw [List.getElem_append_left (by omega)]
      exact marks_get k n i (by omega)
    · rw [List.getElem_append_right (by omega)]
      have : i = n := by simp [marks, hl] at h; omega
      subst this
      simp

def rowM (k : Int) (xs : List Int) (i : Nat) : List LV := (marks k i ++ xs.drop i).map iLV
theorem rowM_len {k : Int} {xs : List Int} {i : Nat} (h : i ≤ xs.length) : (rowM k xs i).length = xs.length := by simp [rowM, marks_len]; omega
theorem rowM_get {k : Int} {xs : List Int} {i : Nat} (h : i < xs.length) : (rowM k xs i)[i]? = some (.int .i64 xs[i]) := by
  unfold rowM
  rw [List.getElem?_map, List.getElem?_append_right (by rw [marks_len]; exact Nat.le_refl _), marks_len, Nat.sub_self, List.getElem?_drop, Nat.add_zero, List.getElem?_eq_getElem h]
  rfl
theorem rowM_set {k : Int} {xs : List Int} {i : Nat} (h : i < xs.length) : (rowM k xs i).set i (.int .i64 (k + i)) = rowM k xs (i + 1) := by
  unfold rowM
  rw [List.drop_eq_getElem_cons h, List.map_append, List.map_cons, List.set_append_right _ _ (by simp [marks_len])]
  simp [marks, marks_len, iLV]

theorem markIntS_spec (xs : List Int) (n : Nat) (hn : n = (xs.map iLV).length) (k : Int) (h0 : 0 ≤ k) (h1 : k + xs.length ≤ 4611686018427387904) :
    HSpec env.P 53 [.hs 0 n, .int .i64 k] [.arr 3 1 (xs.map iLV)] (.int .i64 (k + xs.length)) [.arr 3 1 ((marks k xs.length).map iLV)] := by
  subst hn
  refine HSpec_of_code (E := env.x [] 1) env_ok.x (fn := Try.f53) Try.func53 rfl Try.call53 _ _ _ _ ?_
  ((repeat ((conv => whnf); first | refine brT ?_ | refine brF ?_)); conv => whnf)
  refine loop_rule (α := Nat) (fun i => [(5, .int .i64 (i : Int)), (1, .int .i64 (k + i)), (0, .hs 0 (rowM k xs i).length)]) (fun i => [.arr 3 1 (rowM k xs i)]) (fun i => xs.length - i) (fun i => i ≤ xs.length) 0 (Nat.zero_le _) ?_ ?_
  · have e0 : xs.map iLV = rowM k xs 0 := by simp [rowM, marks]
    have e1 : LV.hs 0 (xs.map iLV).length = LV.hs 0 (rowM k xs 0).length := by rw [e0]
    have e2 : LV.int .i64 k = LV.int .i64 (k + ((0 : Nat) : Int)) := by simp
    refine ⟨?_, ⟨congrArg (Blk.arr 3 1) e0, trivial⟩, rfl, rfl⟩
    repeat ((conv => whnf); first | refine ⟨e1, ?_⟩ | refine ⟨e2, ?_⟩ | refine ⟨rfl, ?_⟩)
    trivial
  intro i hi
  have hl := rowM_len (k := k) hi
  ((repeat ((conv => whnf); first | refine brT ?_ | refine brF ?_)); conv => whnf)
  refine ⟨rfl, fun hm => ?_⟩
  have hm' : xs.length ≤ Go.maxLen := by rw [← hl]; exact hm
  ((repeat ((conv => whnf); first | refine brT ?_ | refine brF ?_)); conv => whnf)
  (refine ⟨fun g1 => ?_, fun g1 => ?_⟩ <;> rw [g1])
  · have hlt : i < xs.length := by rw [ltI_t] at g1; omega
    have e := step_i hlt hm'
    have e4 : LV.int .i64 (IntKind.i64.wrap (k + i + 1)) = LV.int .i64 (k + ((i + 1 : Nat) : Int)) := by
      rw [wrap64 (by omega) (by omega)]; congr 1; omega
    have e5 : LV.hs 0 (rowM k xs i).length = LV.hs 0 (rowM k xs (i + 1)).length := by rw [hl, rowM_len (by omega)]
    ((repeat ((conv => whnf); first | refine brT ?_ | refine brF ?_)); conv => whnf)
    refine ⟨rfl, rfl, i, rfl, by omega, ?_⟩
    ((repeat ((conv => whnf); first | refine brT ?_ | refine brF ?_)); conv => whnf)
    refine ⟨rfl, i, [], .int .i64 xs[i], rfl, by simp [getP, rowM_get hlt], rfl, rfl, rfl, rowM k xs (i + 1), by rw [rowM_get hlt]; exact rowM_set hlt, ?_⟩
    ((repeat ((conv => whnf); first | refine brT ?_ | refine brF ?_)); conv => whnf)
    refine round_end (i + 1) hlt (by omega) ⟨?_, ⟨rfl, trivial⟩, rfl, rfl⟩
    repeat ((conv => whnf); first | refine ⟨e, ?_⟩ | refine ⟨e4, ?_⟩ | refine ⟨e5, ?_⟩ | refine ⟨rfl, ?_⟩)
    trivial
  · have h3 : i = xs.length := by rw [ltI_f] at g1; omega
    subst h3
    ((repeat ((conv => whnf); first | refine brT ?_ | refine brF ?_)); conv => whnf)
    exact ⟨[.int .i64 (k + xs.length)], rfl, rfl, .inl ⟨⟨rfl, trivial⟩, ⟨by simp [rowM], trivial⟩, rfl, rfl⟩⟩

theorem heldIntS_spec (k : Int) (n : Nat) (h0 : 0 ≤ k) (h1 : k + n ≤ 4611686018427387904) : FSpec env.P 54 [.sl ((marks k n).map iLV), .int .i64 k] (.int .i64 (k + n)) := by
  refine FSpec_of_code env_ok (fn := Try.f54) Try.func54 rfl Try.call54 _ _ ?_
  have hl : (List.map iLV (marks k n)).length = n := by simp [marks_len]
  ((repeat ((conv => whnf); first | refine brT ?_ | refine brF ?_)); conv => whnf)
  refine loop_rule (α := Nat) (fun i => [(5, .int .i64 (i : Int)), (1, .int .i64 (k + i))]) (fun i => []) (fun i => n - i) (fun i => i ≤ n) 0 (Nat.zero_le _) ?_ ?_
  · have e2 : LV.int .i64 k = LV.int .i64 (k + ((0 : Nat) : Int)) := by simp
    refine ⟨?_, trivial, rfl, rfl⟩
    ((repeat ((conv => whnf); first | refine ⟨e2, ?_⟩ | refine ⟨rfl, ?_⟩)); trivial)
  intro i hi
  ((repeat ((conv => whnf); first | refine brT ?_ | refine brF ?_)); conv => whnf)
  intro hm
  rw [hl] at hm
  ((repeat ((conv => whnf); first | refine brT ?_ | refine brF ?_)); conv => whnf)
  (refine ⟨fun g1 => ?_, fun g1 => ?_⟩ <;> rw [g1])
  · have hlt : i < n := by rw [ltI_t] at g1; omega
    have e := step_i hlt hm
    have e4 : LV.int .i64 (IntKind.i64.wrap (k + i + 1)) = LV.int .i64 (k + ((i + 1 : Nat) : Int)) := by
      rw [wrap64 (by omega) (by omega)]; congr 1; omega
    have hg : (List.map iLV (marks k n))[i]? = some (.int .i64 (k + i)) := by
      rw [List.getElem?_map, List.getElem?_eq_getElem (by rw [marks_len]; exact hlt), marks_get]; rfl
    ((repeat ((conv => whnf); first | refine brT ?_ | refine brF ?_)); conv => whnf)
    refine ⟨i, _, rfl, hg, rfl, ?_⟩
    ((repeat ((conv => whnf); first | refine brT ?_ | refine brF ?_)); conv => whnf)
    rw [show notB (eqI (k + (i : Int)) (k + i)) = false by simp [notB, eqI]]
    ((repeat ((conv => whnf); first | refine brT ?_ | refine brF ?_)); conv => whnf)
    refine round_end (i + 1) hlt (by omega) ⟨?_, trivial, rfl, rfl⟩
    repeat ((conv => whnf); first | refine ⟨e, ?_⟩ | refine ⟨e4, ?_⟩ | refine ⟨rfl, ?_⟩)
    trivial
  · have h3 : i = n := by rw [ltI_f] at g1; omega
    subst h3
    ((repeat ((conv => whnf); first | refine brT ?_ | refine brF ?_)); conv => whnf)
    exact ⟨rfl, rfl, List.nodup_nil⟩

/-- laws.markText -/
def digits (n : Nat) (acc : ByteArray) : ByteArray := if h : n = 0 then acc else digits (n / 10) (bytesOf [IntKind.u8.wrap (IntKind.i64.wrap (48 + (n : Int).tmod 10))] ++ acc)
termination_by n
decreasing_by omega
def mText (k : Nat) : ByteArray := if k = 0 then ⟨#[109, 48]⟩ else ⟨#[109]⟩ ++ digits k ⟨#[]⟩
theorem bytesOf1_size (n : Int) : (bytesOf [n]).size = 1 := by unfold bytesOf; rw [bytesOf_size]; rfl
theorem digits_zero (acc : ByteArray) : digits 0 acc = acc := by rw [digits]; simp
theorem digits_pos {n : Nat} (h : 0 < n) (acc : ByteArray) : digits n acc = digits (n / 10) (bytesOf [IntKind.u8.wrap (IntKind.i64.wrap (48 + (n : Int).tmod 10))] ++ acc) := by
  rw [digits, dif_neg (by omega)]
theorem markText_spec (k : Nat) (hk : k ≤ 4611686018427387904) : FSpec env.P 141 [.int .i64 (k : Int)] (.str (mText k)) := by
  refine FSpec_of_code env_ok (fn := Try.f141) Try.func141 rfl Try.call141 _ _ ?_
  ((repeat ((conv => whnf); first | refine brT ?_ | refine brF ?_)); conv => whnf)
  (refine ⟨fun h => ?_, fun h => ?_⟩ <;> rw [h])
  · have : k = 0 := by rw [leI_t] at h; omega
    subst this
    ((repeat ((conv => whnf); first | refine brT ?_ | refine brF ?_)); conv => whnf)
    exact fin (by simp [mText])
  have hpos : 0 < k := by rw [leI_f] at h; omega
  ((repeat ((conv => whnf); first | refine brT ?_ | refine brF ?_)); conv => whnf)
  refine loop_rule (α := Nat × ByteArray) (fun x => [(0, .int .i64 (x.1 : Int)), (3, .str x.2)]) (fun x => []) (fun x => x.1) (fun x => digits x.1 x.2 = digits k ⟨#[]⟩ ∧ 10 ^ x.2.size * x.1 ≤ k ∧ x.1 ≤ k ∧ x.2.size ≤ 20) (k, ⟨#[]⟩) ⟨rfl, by simp [ByteArray.size], Nat.le_refl _, by simp [ByteArray.size]⟩ ?_ ?_
  · refine ⟨?_, trivial, rfl, rfl⟩
    ((repeat ((conv => whnf); refine ⟨rfl, ?_⟩)); trivial)
  rintro ⟨n, acc⟩ ⟨h1, h2, h3, h4⟩
  ((repeat ((conv => whnf); first | refine brT ?_ | refine brF ?_)); conv => whnf)
  (refine ⟨fun g1 => ?_, fun g1 => ?_⟩ <;> rw [g1])
  · have hn : 0 < n := by rw [ltI_t] at g1; omega
    have hs : acc.size ≤ 18 := by
      have h5 : 10 ^ acc.size ≤ k := Nat.le_trans (Nat.le_mul_of_pos_right _ hn) h2
      rcases Nat.lt_or_ge acc.size 19 with h | h
      · omega
      · have h6 : 10 ^ 19 ≤ 10 ^ acc.size := Nat.pow_le_pow_right (by decide) h
        have h7 : (10 : Nat) ^ 19 = 10000000000000000000 := by decide
        omega
    ((repeat ((conv => whnf); first | refine brT ?_ | refine brF ?_)); conv => whnf)
    refine ⟨by decide, ?_⟩
    ((repeat ((conv => whnf); first | refine brT ?_ | refine brF ?_)); conv => whnf)
    refine ⟨rfl, [IntKind.u8.wrap (IntKind.i64.wrap (48 + (n : Int).tmod 10))], rfl, ?_⟩
    ((repeat ((conv => whnf); first | refine brT ?_ | refine brF ?_)); conv => whnf)
    refine ⟨by rw [bytesOf1_size]; unfold Go.maxLen; omega, ?_⟩
    ((repeat ((conv => whnf); first | refine brT ?_ | refine brF ?_)); conv => whnf)
    refine ⟨by decide, ?_⟩
    have e : LV.int .i64 (IntKind.i64.wrap ((n : Int).tdiv 10)) = LV.int .i64 ((n / 10 : Nat) : Int) := by
      rw [show (n : Int).tdiv 10 = ((n / 10 : Nat) : Int) by rw [Int.tdiv_eq_ediv_of_nonneg (by omega)]; omega, wrap64 (by omega) (by omega)]
    ((repeat ((conv => whnf); first | refine brT ?_ | refine brF ?_)); conv => whnf)
    refine round_end (n / 10, bytesOf [IntKind.u8.wrap (IntKind.i64.wrap (48 + (n : Int).tmod 10))] ++ acc) ⟨by rw [← h1, digits_pos hn], ?_, by omega, ?_⟩ (by show n / 10 < n; omega) ⟨?_, trivial, rfl, rfl⟩
    · show 10 ^ (bytesOf [IntKind.u8.wrap (IntKind.i64.wrap (48 + (n : Int).tmod 10))] ++ acc).size * (n / 10) ≤ k
      rw [ByteArray.size_append, bytesOf1_size, Nat.add_comm, Nat.pow_succ]
      refine Nat.le_trans ?_ h2
      rw [Nat.mul_assoc]
      exact Nat.mul_le_mul_left _ (Nat.mul_div_le n 10)
    · show (bytesOf [IntKind.u8.wrap (IntKind.i64.wrap (48 + (n : Int).tmod 10))] ++ acc).size ≤ 20
      rw [ByteArray.size_append, bytesOf1_size]; omega
    · ((repeat ((conv => whnf); first | refine ⟨e, ?_⟩ | refine ⟨rfl, ?_⟩)); trivial)
  · have hn : n = 0 := by rw [ltI_f] at g1; omega
    subst hn
    rw [digits_zero] at h1
    ((repeat ((conv => whnf); first | refine brT ?_ | refine brF ?_)); conv => whnf)
    refine ⟨by have h5 : acc.size ≤ 20 := h4; unfold Go.maxLen; show 1 + acc.size ≤ _; omega, ?_⟩
    ((repeat ((conv => whnf); first | refine brT ?_ | refine brF ?_)); conv => whnf)
    refine fin ?_
    unfold mText
    rw [if_neg (by omega), ← h1]
end Go.Proofs.Ytfdjeflnjciloaa
