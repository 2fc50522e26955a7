/- Contracts of functions of the program and of its model, told over readings. -/
import Derived.Test.YtbiagkccgijdlaaGreatAWGA
import Derived.Test.YtbiagkccgijdlaaGreatALgPM
import Derived.Test.YtbiagkccgijdlaaGreatALgMF
import Derived.Test.YtbiagkccgijdlaaGreatALgWS
namespace Go.Proofs.YtbiagkccgijdlaaGreat
open Go.Lg
set_option maxHeartbeats 1600000
set_option maxRecDepth 10000
set_option linter.unusedVariables false
set_option linter.unusedSimpArgs false

def Pr.eq (p q : Pr) : Bool := eqI p.a q.a && eqI p.b q.b
theorem Pr.eq_refl (p : Pr) : p.eq p = true := by simp [Pr.eq, eqI_refl]
theorem eqPairS_refl (ps : List Pr) : eqList Pr.eq ps ps = true := eqList_refl Pr.eq_refl ps

def markPrs (k : Nat) : Nat → List Pr
  | 0 => []
  | n + 1 => markPrs k n ++ [⟨((k + 2 * n : Nat) : Int), ((k + 2 * n : Nat) : Int) + 1⟩]
theorem markPrs_len (k : Nat) : ∀ n, (markPrs k n).length = n
  | 0 => rfl
  | n + 1 => by simp [markPrs, markPrs_len k n]
theorem markPrs_get (k : Nat) : ∀ (n i : Nat), i < n → (markPrs k n)[i]? = some ⟨((k + 2 * i : Nat) : Int), ((k + 2 * i : Nat) : Int) + 1⟩
  | 0, i, h => by omega
  | n + 1, i, h => by
    simp only [markPrs]
    by_cases e : i = n
    · subst e; rw [List.getElem?_append_right (by rw [markPrs_len]; exact Nat.le_refl _), markPrs_len]; simp
    · rw [List.getElem?_append_left (by rw [markPrs_len]; omega)]; exact markPrs_get k n i (by omega)
def rowQM (k : Nat) (ps : List Pr) (i : Nat) : List LV := (markPrs k i ++ ps.drop i).map Pr.lv
theorem rowQM_len {k : Nat} {ps : List Pr} {i : Nat} (h : i ≤ ps.length) : (rowQM k ps i).length = ps.length := by simp [rowQM, markPrs_len]; omega
theorem rowQM_get {k : Nat} {ps : List Pr} {i : Nat} (h : i < ps.length) : (rowQM k ps i)[i]? = some ps[i].lv := by
  unfold rowQM
  rw [List.getElem?_map, List.getElem?_append_right (by rw [markPrs_len]; exact Nat.le_refl _), markPrs_len, Nat.sub_self, List.getElem?_drop, Nat.add_zero, List.getElem?_eq_getElem h]
  rfl
theorem rowQM_set {k : Nat} {ps : List Pr} {i : Nat} (h : i < ps.length) : (rowQM k ps i).set i (Pr.lv ⟨((k + 2 * i : Nat) : Int), ((k + 2 * i : Nat) : Int) + 1⟩) = rowQM k ps (i + 1) := by
  unfold rowQM
  rw [List.drop_eq_getElem_cons h, List.map_append, List.map_cons, List.set_append_right _ _ (by simp [markPrs_len])]
  simp [markPrs, markPrs_len]

end Go.Proofs.YtbiagkccgijdlaaGreat

namespace Go.Proofs.YtbiagkccgijdlaaGreat
open Go.Lg
set_option maxHeartbeats 1600000
set_option maxRecDepth 10000
set_option linter.unusedVariables false
set_option linter.unusedSimpArgs false

end Go.Proofs.YtbiagkccgijdlaaGreat

namespace Go.Proofs.YtbiagkccgijdlaaGreat
open Go.Lg Go.Pm
set_option maxHeartbeats 1600000
set_option maxRecDepth 10000
set_option linter.unusedVariables false
set_option linter.unusedSimpArgs false

/-! ### Places -/
end Go.Proofs.YtbiagkccgijdlaaGreat

namespace Go.Proofs.YtbiagkccgijdlaaGreat
open Go.Lg Go.Pm
set_option maxHeartbeats 1600000
set_option maxRecDepth 10000
set_option linter.unusedVariables false
set_option linter.unusedSimpArgs false

end Go.Proofs.YtbiagkccgijdlaaGreat


namespace Go.Proofs.YtbiagkccgijdlaaGreat
open Go.Lg Go.Pm
set_option maxHeartbeats 1600000
set_option maxRecDepth 10000
set_option linter.unusedVariables false
set_option linter.unusedSimpArgs false

/-! ### Composition -/
/-- The composition of lists that are permutations of as many numbers; nothing of others. -/
def cmpB (ps qs : List Int) : Bool := eqI (ps.length : Int) (qs.length : Int) && (permB ps && permB qs)
end Go.Proofs.YtbiagkccgijdlaaGreat

namespace Go.Proofs.YtbiagkccgijdlaaGreat
open Go.Lg Go.Pm
set_option maxHeartbeats 3200000
set_option maxRecDepth 10000
set_option linter.unusedVariables false
set_option linter.unusedSimpArgs false

end Go.Proofs.YtbiagkccgijdlaaGreat

namespace Go.Proofs.YtbiagkccgijdlaaGreat
open Go.Lg
set_option maxHeartbeats 1600000
set_option maxRecDepth 10000
set_option linter.unusedVariables false
set_option linter.unusedSimpArgs false

/-! ### Bits -/
theorem u64_wrap {n : Nat} (h : n < 2 ^ 64) : IntKind.u64.wrap (n : Int) = n := by
  unfold IntKind.wrap
  simp [IntKind.signed, IntKind.bits]
  omega
theorem ofInt_nat (n : Nat) : BitVec.ofInt 64 (n : Int) = BitVec.ofNat 64 n := by simp
theorem orI_nat {a b : Nat} (ha : a < 2 ^ 64) (hb : b < 2 ^ 64) : Go.Lg.orI .u64 (a : Int) (b : Int) = ((a ||| b : Nat) : Int) := by
  unfold Go.Lg.orI
  show IntKind.u64.wrap ((BitVec.ofInt 64 (a : Int) ||| BitVec.ofInt 64 (b : Int)).toNat) = _
  rw [ofInt_nat, ofInt_nat, BitVec.toNat_or, BitVec.toNat_ofNat, BitVec.toNat_ofNat, Nat.mod_eq_of_lt ha, Nat.mod_eq_of_lt hb]
  exact u64_wrap (Nat.or_lt_two_pow ha hb)
theorem andI_nat {a b : Nat} (ha : a < 2 ^ 64) (hb : b < 2 ^ 64) : andI .u64 (a : Int) (b : Int) = ((a &&& b : Nat) : Int) := by
  unfold andI
  show IntKind.u64.wrap ((BitVec.ofInt 64 (a : Int) &&& BitVec.ofInt 64 (b : Int)).toNat) = _
  rw [ofInt_nat, ofInt_nat, BitVec.toNat_and, BitVec.toNat_ofNat, BitVec.toNat_ofNat, Nat.mod_eq_of_lt ha, Nat.mod_eq_of_lt hb]
  exact u64_wrap (Nat.and_lt_two_pow a hb)
theorem shlI_one {b : Int} (h0 : 0 ≤ b) (h1 : b < 64) : shlI .u64 1 b = ((2 ^ b.toNat : Nat) : Int) := by
  unfold shlI
  have hm : min b.toNat IntKind.u64.bits = b.toNat := by
    have : b.toNat < 64 := by omega
    simp [IntKind.bits]; omega
  rw [hm, Int.one_mul]
  have hlt : 2 ^ b.toNat < 2 ^ 64 := Nat.pow_lt_pow_right (by omega) (by omega)
  have := u64_wrap hlt
  rw [← this]
  simp

def uLV (s : Nat) : LV := .int .u64 (s : Int)
/-- The set of a row. -/
def setFrom : Nat → List Int → Nat
  | s, [] => s
  | s, b :: bs => setFrom (s ||| 2 ^ b.toNat) bs
def setN (row : List Int) : Nat := setFrom 0 row
def inSize (row : List Int) : Prop := ∀ b ∈ row, 0 ≤ b ∧ b < 40
theorem two_lt {b : Nat} (h : b < 64) : 2 ^ b < 2 ^ 64 := Nat.pow_lt_pow_right (by omega) h
theorem setFrom_lt : ∀ (row : List Int) (s : Nat), s < 2 ^ 64 → inSize row → setFrom s row < 2 ^ 64
  | [], s, h, _ => h
  | b :: bs, s, h, hr => by
    have := hr b (by simp)
    exact setFrom_lt bs _ (Nat.or_lt_two_pow h (two_lt (by omega))) fun x hx => hr x (by simp [hx])
/-- (numberSet).has -/
def hasN (s : Nat) (b : Int) : Bool := s.testBit b.toNat
theorem has_bits {s : Nat} {b : Int} (hs : s < 2 ^ 64) (h0 : 0 ≤ b) (h1 : b < 64) : notB (eqI (andI .u64 (s : Int) (shlI .u64 1 b)) 0) = hasN s b := by
  rw [shlI_one h0 h1, andI_nat hs (two_lt (by omega))]
  unfold hasN notB eqI
  have hx : s &&& 2 ^ b.toNat = if s.testBit b.toNat then 2 ^ b.toNat else 0 := by
    apply Nat.eq_of_testBit_eq
    intro i
    rw [Nat.testBit_and, Nat.testBit_two_pow]
    by_cases hi : b.toNat = i
    · subst hi
      cases h : s.testBit b.toNat <;> simp [Nat.testBit_two_pow]
    · cases h : s.testBit b.toNat <;> simp [hi, Nat.testBit_two_pow]
  rw [hx]
  have hp : 0 < 2 ^ b.toNat := Nat.two_pow_pos _
  cases s.testBit b.toNat
  · simp
  · simp only [if_true]
    rw [Bool.not_eq_true', beq_eq_false_iff_ne]
    omega
end Go.Proofs.YtbiagkccgijdlaaGreat

namespace Go.Proofs.YtbiagkccgijdlaaGreat
open Go.Lg
set_option maxHeartbeats 1600000
set_option maxRecDepth 10000
set_option linter.unusedVariables false
set_option linter.unusedSimpArgs false

end Go.Proofs.YtbiagkccgijdlaaGreat

namespace Go.Proofs.YtbiagkccgijdlaaGreat
open Go.Lg
set_option maxHeartbeats 1600000
set_option maxRecDepth 10000
set_option linter.unusedVariables false
set_option linter.unusedSimpArgs false

def bLV (b : Bool) : LV := .bool b
end Go.Proofs.YtbiagkccgijdlaaGreat

namespace Go.Proofs.YtbiagkccgijdlaaGreat
open Go.Lg
set_option maxHeartbeats 1600000
set_option maxRecDepth 10000
set_option linter.unusedVariables false
set_option linter.unusedSimpArgs false

end Go.Proofs.YtbiagkccgijdlaaGreat

namespace Go.Proofs.YtbiagkccgijdlaaGreat
open Go.Lg
set_option maxHeartbeats 1600000
set_option maxRecDepth 10000
set_option linter.unusedVariables false
set_option linter.unusedSimpArgs false

end Go.Proofs.YtbiagkccgijdlaaGreat

namespace Go.Proofs.YtbiagkccgijdlaaGreat
open Go.Lg
set_option maxHeartbeats 1600000
set_option maxRecDepth 10000
set_option linter.unusedVariables false
set_option linter.unusedSimpArgs false

end Go.Proofs.YtbiagkccgijdlaaGreat

namespace Go.Proofs.YtbiagkccgijdlaaGreat
open Go.Lg
set_option maxHeartbeats 1600000
set_option maxRecDepth 10000
set_option linter.unusedVariables false
set_option linter.unusedSimpArgs false

def idxOf : Nat → List Int → Int → Int
  | _, [], _ => -1
  | k, x :: xs, v => match eqI v x with | true => (k : Int) | false => idxOf (k + 1) xs v
end Go.Proofs.YtbiagkccgijdlaaGreat

namespace Go.Proofs.YtbiagkccgijdlaaGreat
open Go.Lg
set_option maxHeartbeats 1600000
set_option maxRecDepth 10000
set_option linter.unusedVariables false
set_option linter.unusedSimpArgs false

/-! ### Tables and sets of one predicate -/
/-! ### Sets -/
def bitsP : Nat → (Nat → Bool) → Nat
  | 0, _ => 0
  | n + 1, p => bitsP n p ||| (if p n then 2 ^ n else 0)
theorem bitsP_bit (p : Nat → Bool) : ∀ (n i : Nat), (bitsP n p).testBit i = (decide (i < n) && p i)
  | 0, i => by simp [bitsP]
  | n + 1, i => by
    simp only [bitsP]
    rw [Nat.testBit_or, bitsP_bit p n i]
    by_cases e : i = n
    · subst e
      cases h : p i <;> simp [Nat.testBit_two_pow]
    · have h2 : decide (i < n + 1) = decide (i < n) := by rw [decide_eq_decide]; omega
      rw [h2]
      cases h : p n
      · simp
      · have : ¬ n = i := fun h => e h.symm
        simp [Nat.testBit_two_pow, this]
theorem bitsP_lt (p : Nat → Bool) : ∀ n, bitsP n p < 2 ^ n
  | 0 => by simp [bitsP]
  | n + 1 => by
    simp only [bitsP]
    have h := bitsP_lt p n
    have h2 : 2 ^ n < 2 ^ (n + 1) := Nat.pow_lt_pow_right (by omega) (by omega)
    refine Nat.or_lt_two_pow (by omega) ?_
    split <;> omega
theorem bitsP_64 {n : Nat} (p : Nat → Bool) (h : n ≤ 64) : bitsP n p < 2 ^ 64 := Nat.lt_of_lt_of_le (bitsP_lt p n) (Nat.pow_le_pow_right (by omega) h)
theorem bits_ext {n s : Nat} {p : Nat → Bool} (h : ∀ i, s.testBit i = (decide (i < n) && p i)) : s = bitsP n p := by
  apply Nat.eq_of_testBit_eq
  intro i
  rw [h, bitsP_bit]
theorem bitsP_add {n b : Nat} {p : Nat → Bool} (hb : b < n) : bitsP n p ||| 2 ^ b = bitsP n fun y => if y = b then true else p y :=
  bits_ext fun i => by
    rw [Nat.testBit_or, bitsP_bit, Nat.testBit_two_pow]
    by_cases e : i = b
    · subst e; simp [hb]
    · have : ¬ b = i := fun h => e h.symm
      simp [e, this]
/-! ### Rounds -/
end Go.Proofs.YtbiagkccgijdlaaGreat


namespace Go.Proofs.YtbiagkccgijdlaaGreat
open Go.Lg
set_option maxHeartbeats 1600000
set_option maxRecDepth 10000
set_option linter.unusedVariables false
set_option linter.unusedSimpArgs false

theorem RelIn.size {n : Int} {rows : List (List Int)} (h : RelIn n rows) : rows.length ≤ 40 := by have := h.len; have := h.hi; omega
end Go.Proofs.YtbiagkccgijdlaaGreat

namespace Go.Proofs.YtbiagkccgijdlaaGreat
open Go.Lg
set_option maxHeartbeats 1600000
set_option maxRecDepth 10000
set_option linter.unusedVariables false
set_option linter.unusedSimpArgs false

end Go.Proofs.YtbiagkccgijdlaaGreat

namespace Go.Proofs.YtbiagkccgijdlaaGreat
open Go.Lg
set_option maxHeartbeats 1600000
set_option maxRecDepth 10000
set_option linter.unusedVariables false
set_option linter.unusedSimpArgs false

/-! ### The closure, by rows and place by place -/
theorem bitsP_has {N k : Nat} {p : Nat → Bool} (hk : k < N) : hasN (bitsP N p) (k : Int) = p k := by
  unfold hasN
  rw [Int.toNat_natCast, bitsP_bit]; simp [hk]
end Go.Proofs.YtbiagkccgijdlaaGreat

namespace Go.Proofs.YtbiagkccgijdlaaGreat
open Go.Lg
set_option maxHeartbeats 1600000
set_option maxRecDepth 10000
set_option linter.unusedVariables false
set_option linter.unusedSimpArgs false

/-! ### Composition -/
end Go.Proofs.YtbiagkccgijdlaaGreat

namespace Go.Proofs.YtbiagkccgijdlaaGreat
open Go.Lg
set_option maxHeartbeats 1600000
set_option maxRecDepth 10000
set_option linter.unusedVariables false
set_option linter.unusedSimpArgs false

end Go.Proofs.YtbiagkccgijdlaaGreat

namespace Go.Proofs.YtbiagkccgijdlaaGreat
open Go.Lg
set_option maxHeartbeats 1600000
set_option maxRecDepth 10000
set_option linter.unusedVariables false
set_option linter.unusedSimpArgs false

/-! ### Composition place by place -/
end Go.Proofs.YtbiagkccgijdlaaGreat

namespace Go.Proofs.YtbiagkccgijdlaaGreat
open Go.Lg
set_option maxHeartbeats 1600000
set_option maxRecDepth 10000
set_option linter.unusedVariables false
set_option linter.unusedSimpArgs false

end Go.Proofs.YtbiagkccgijdlaaGreat

namespace Go.Proofs.YtbiagkccgijdlaaGreat
open Go.Lg
set_option maxHeartbeats 1600000
set_option maxRecDepth 10000
set_option linter.unusedVariables false
set_option linter.unusedSimpArgs false

end Go.Proofs.YtbiagkccgijdlaaGreat

namespace Go.Proofs.YtbiagkccgijdlaaGreat
open Go.Lg
set_option maxHeartbeats 1600000
set_option maxRecDepth 10000
set_option linter.unusedVariables false
set_option linter.unusedSimpArgs false

/-! ### Wrappers of the model -/
/-! ### Equality -/
end Go.Proofs.YtbiagkccgijdlaaGreat

namespace Go.Proofs.YtbiagkccgijdlaaGreat
open Go.Lg
set_option maxHeartbeats 1600000
set_option maxRecDepth 10000
set_option linter.unusedVariables false
set_option linter.unusedSimpArgs false

theorem flats_prs : ∀ xs : List Pr, flatsB (xs.map Pr.lv) = true
  | [] => rfl
  | x :: xs => by simp [flatsB, flatB, Pr.lv]; exact flats_prs xs

end Go.Proofs.YtbiagkccgijdlaaGreat

namespace Go.Proofs.YtbiagkccgijdlaaGreat
open Go.Lg
set_option maxHeartbeats 1600000
set_option maxRecDepth 10000
set_option linter.unusedVariables false
set_option linter.unusedSimpArgs false

end Go.Proofs.YtbiagkccgijdlaaGreat

namespace Go.Proofs.YtbiagkccgijdlaaGreat
open Go.Lg
set_option maxHeartbeats 1600000
set_option maxRecDepth 10000
set_option linter.unusedVariables false
set_option linter.unusedSimpArgs false

end Go.Proofs.YtbiagkccgijdlaaGreat

namespace Go.Proofs.YtbiagkccgijdlaaGreat
open Go.Lg
set_option maxHeartbeats 1600000
set_option maxRecDepth 10000
set_option linter.unusedVariables false
set_option linter.unusedSimpArgs false

end Go.Proofs.YtbiagkccgijdlaaGreat

namespace Go.Proofs.YtbiagkccgijdlaaGreat
open Go.Lg
set_option maxHeartbeats 1600000
set_option maxRecDepth 10000
set_option linter.unusedVariables false
set_option linter.unusedSimpArgs false

/-! A step is a pair: its kind and its age. -/
end Go.Proofs.YtbiagkccgijdlaaGreat

namespace Go.Proofs.YtbiagkccgijdlaaGreat
open Go.Lg
set_option maxHeartbeats 1600000
set_option maxRecDepth 10000
set_option linter.unusedVariables false
set_option linter.unusedSimpArgs false

theorem eqI_d (a b : Int) : eqI a b = decide (a = b) := by rw [Bool.eq_iff_iff, eqI_t]; simp
theorem leI_d (a b : Int) : leI a b = decide (a ≤ b) := by rw [Bool.eq_iff_iff, leI_t]; simp
theorem notB_d (b : Bool) : notB b = !b := by rw [Bool.eq_iff_iff, notB_t]; simp

end Go.Proofs.YtbiagkccgijdlaaGreat

namespace Go.Proofs.YtbiagkccgijdlaaGreat
open Go.Lg
set_option maxHeartbeats 1600000
set_option maxRecDepth 10000
set_option linter.unusedVariables false
set_option linter.unusedSimpArgs false

end Go.Proofs.YtbiagkccgijdlaaGreat

namespace Go.Proofs.YtbiagkccgijdlaaGreat
open Go.Lg Go.Pm
set_option maxHeartbeats 3200000
set_option maxRecDepth 10000
set_option linter.unusedVariables false
set_option linter.unusedSimpArgs false

/-! ### Classes -/
end Go.Proofs.YtbiagkccgijdlaaGreat

namespace Go.Proofs.YtbiagkccgijdlaaGreat
open Go.Lg Go.Pm
set_option maxHeartbeats 3200000
set_option maxRecDepth 10000
set_option linter.unusedVariables false
set_option linter.unusedSimpArgs false

/-! ### No class marries itself -/
end Go.Proofs.YtbiagkccgijdlaaGreat


namespace Go.Proofs.YtbiagkccgijdlaaGreat
open Go.Lg Go.Pm
set_option maxHeartbeats 6400000
set_option maxRecDepth 10000
set_option linter.unusedVariables false
set_option linter.unusedSimpArgs false

end Go.Proofs.YtbiagkccgijdlaaGreat


namespace Go.Proofs.YtbiagkccgijdlaaGreat
open Go.Lg
set_option maxHeartbeats 400000
set_option maxRecDepth 10000
set_option linter.unusedVariables false
set_option linter.unusedSimpArgs false

/-- spec.l1Parent, asked of a person of the family. -/
def parentAt (ps : List Per) (i q sex late born : Int) : Bool :=
  eqI q (-1) || (leI 0 q && (ltI q i && match ps[q.toNat]? with
    | none => false
    | some p => eqI p.sex sex && (ltI p.born born && (eqI p.died (-1) || leI born (IntKind.i64.wrap (p.died + late))))))
theorem l1Parent_spec (ps : List Per) (us : List Uni) (i : Nat) (hi : i < ps.length) (q sex late : Int) :
    FSpec env.P 81 [famLV ps us, .int .i64 (i : Int), .int .i64 q, .int .i64 sex, .int .i64 late] (.bool (parentAt ps i q sex late (ps[i]).born)) := by
  refine FSpec_of_code env_ok (fn := Tryz.f81) Tryz.func81 rfl Tryz.call81 _ _ ?_
  ((repeat ((conv => whnf); first | refine brT ?_ | refine brF ?_)); conv => whnf)
  (refine ⟨fun h => ?_, fun h => ?_⟩ <;> rw [h])
  · ((repeat ((conv => whnf); first | refine brT ?_ | refine brF ?_)); conv => whnf); refine fin ?_; simp [parentAt, h]
  ((repeat ((conv => whnf); first | refine brT ?_ | refine brF ?_)); conv => whnf)
  (refine ⟨fun h1 => ?_, fun h1 => ?_⟩ <;> rw [h1])
  · ((repeat ((conv => whnf); first | refine brT ?_ | refine brF ?_)); conv => whnf); refine fin ?_
    grind [parentAt, ltI_t, ltI_f, leI_t, leI_f, eqI_t, eqI_f]
  ((repeat ((conv => whnf); first | refine brT ?_ | refine brF ?_)); conv => whnf)
  (refine ⟨fun h2 => ?_, fun h2 => ?_⟩ <;> rw [h2])
  · ((repeat ((conv => whnf); first | refine brT ?_ | refine brF ?_)); conv => whnf); refine fin ?_
    grind [parentAt, ltI_t, ltI_f, leI_t, leI_f, eqI_t, eqI_f]
  have hq : 0 ≤ q ∧ q < i := by rw [ltI_f] at h1; rw [leI_f] at h2; omega
  have hlt : q.toNat < ps.length := by omega
  have hg : ps[q.toNat]? = some ps[q.toNat] := List.getElem?_eq_getElem hlt
  have hd : parentAt ps i q sex late (ps[i]).born = (eqI ps[q.toNat].sex sex && (ltI ps[q.toNat].born (ps[i]).born && (eqI ps[q.toNat].died (-1) || leI (ps[i]).born (IntKind.i64.wrap (ps[q.toNat].died + late))))) := by
    have e1 : leI 0 q = true := leI_t.2 hq.1
    have e2 : ltI q i = true := ltI_t.2 hq.2
    simp [parentAt, h, e1, e2, hg]
  ((repeat ((conv => whnf); first | refine brT ?_ | refine brF ?_)); conv => whnf)
  refine ⟨q.toNat, ps[q.toNat].lv, by omega, by simp [hlt], rfl, ?_⟩
  ((repeat ((conv => whnf); first | refine brT ?_ | refine brF ?_)); conv => whnf)
  (refine ⟨fun h3 => ?_, fun h3 => ?_⟩ <;> rw [h3])
  · ((repeat ((conv => whnf); first | refine brT ?_ | refine brF ?_)); conv => whnf); refine fin ?_
    rw [notB_t] at h3
    simp [hd, h3]
  rw [notB_f] at h3
  ((repeat ((conv => whnf); first | refine brT ?_ | refine brF ?_)); conv => whnf)
  refine ⟨q.toNat, ps[q.toNat].lv, by omega, by simp [hlt], rfl, ?_⟩
  ((repeat ((conv => whnf); first | refine brT ?_ | refine brF ?_)); conv => whnf)
  refine ⟨i, ps[i].lv, rfl, by simp [hi], rfl, ?_⟩
  ((repeat' (((repeat ((conv => whnf); first | refine brT ?_ | refine brF ?_)); conv => whnf); (refine And.intro ?_ ?_ <;> (intro h; rw [h]; revert h; intro _)))); all_goals ((repeat ((conv => whnf); first | refine brT ?_ | refine brF ?_)); conv => whnf))
  all_goals (refine fin ?_; simp [*])

def fresh (ps : List Per) (n : ByteArray) (k : Nat) : Bool := (ps.take k).all fun q => notB (eqS q.name n)
theorem fresh_succ {ps : List Per} {n : ByteArray} {k : Nat} (h : k < ps.length) : fresh ps n (k + 1) = (fresh ps n k && notB (eqS ps[k].name n)) := by
  unfold fresh
  rw [List.take_succ_eq_append_getElem h, List.all_append]
  simp
theorem fresh_no {ps : List Per} {n : ByteArray} {k i : Nat} (hi : k < i) (h : k < ps.length) (e : eqS ps[k].name n = true) : fresh ps n i = false := by
  unfold fresh
  rw [List.all_eq_false]
  refine ⟨ps[k], ?_, by simp [notB, e]⟩
  rw [List.mem_take_iff_getElem]
  exact ⟨k, by omega, rfl⟩

/-- spec.l1Person -/
def shapeOk (p : Per) : Bool := isName p.name && ((leI 1 p.sex && leI p.sex 2) && ((leI 0 p.born && leI p.born 9999) && (eqI p.died (-1) || (leI p.born p.died && leI p.died 9999))))
def personAt (ps : List Per) (i : Nat) (p : Per) : Bool :=
  shapeOk p && (fresh ps p.name i && (parentAt ps i p.father 1 1 p.born && parentAt ps i p.mother 2 0 p.born))
theorem l1Person_spec (ps : List Per) (us : List Uni) (i : Nat) (hi : i < ps.length) (hl : ps.length ≤ 40) : FSpec env.P 60 [famLV ps us, .int .i64 (i : Int)] (.bool (personAt ps i ps[i])) := by
  refine FSpec_of_code env_ok (fn := Tryz.f60) Tryz.func60 rfl Tryz.call60 _ _ ?_
  ((repeat ((conv => whnf); first | refine brT ?_ | refine brF ?_)); conv => whnf)
  refine ⟨i, ps[i].lv, rfl, by simp [hi], rfl, ?_⟩
  ((repeat' (((repeat ((conv => whnf); first | refine brT ?_ | refine brF ?_)); conv => whnf); first | (refine And.intro ?_ ?_ <;> (intro h; rw [h]; revert h; intro _)) | (refine Exists.intro true (And.intro (a := drawB _ _ = true) (by kernel_rfl) ?_)) | (refine Exists.intro _ (And.intro (isName_spec ps[i].name) ?_)) | (refine Exists.intro _ (And.intro (l1In_spec _ _ _) ?_)))); all_goals ((repeat ((conv => whnf); first | refine brT ?_ | refine brF ?_)); conv => whnf))
  all_goals first
    | (refine fin ?_; grind [personAt, shapeOk, notB_t, notB_f])
    | skip
  all_goals
    have hs : shapeOk ps[i] = true := by grind [shapeOk, notB_t, notB_f]
    refine loop_rule (α := Nat) (fun k => [(6, .int .i64 (k : Int))]) (fun k => [.box (famLV ps us), .box ps[i].lv]) (fun k => i - k) (fun k => k ≤ i ∧ fresh ps ps[i].name k = true) 0 ⟨Nat.zero_le _, rfl⟩ ?_ ?_
    · refine ⟨?_, ⟨rfl, rfl, trivial⟩, rfl, rfl⟩
      ((repeat ((conv => whnf); refine ⟨rfl, ?_⟩)); trivial)
    rintro k ⟨hk, hf⟩
    ((repeat ((conv => whnf); first | refine brT ?_ | refine brF ?_)); conv => whnf)
    (refine ⟨fun g1 => ?_, fun g1 => ?_⟩ <;> rw [g1])
    · have hlt : k < i := by rw [ltI_t] at g1; omega
      have hkl : k < ps.length := by omega
      ((repeat ((conv => whnf); first | refine brT ?_ | refine brF ?_)); conv => whnf)
      refine ⟨true, by kernel_rfl, ?_⟩
      ((repeat ((conv => whnf); first | refine brT ?_ | refine brF ?_)); conv => whnf)
      refine ⟨k, ps[k].lv, rfl, by simp [hkl], rfl, ?_⟩
      ((repeat ((conv => whnf); first | refine brT ?_ | refine brF ?_)); conv => whnf)
      (refine ⟨fun g2 => ?_, fun g2 => ?_⟩ <;> rw [g2])
      · ((repeat ((conv => whnf); first | refine brT ?_ | refine brF ?_)); conv => whnf)
        refine fin ?_
        simp [personAt, fresh_no hlt hkl g2]
      · ((repeat ((conv => whnf); first | refine brT ?_ | refine brF ?_)); conv => whnf)
        refine round_end (k + 1) ⟨hlt, by rw [fresh_succ hkl, hf, g2]; simp [notB]⟩ (by omega) ⟨?_, ⟨rfl, rfl, trivial⟩, rfl, rfl⟩
        have e := step_i hlt (by unfold Go.maxLen; omega)
        ((repeat ((conv => whnf); first | refine ⟨e, ?_⟩ | refine ⟨rfl, ?_⟩)); trivial)
    · have hki : k = i := by rw [ltI_f] at g1; omega
      subst hki
      ((repeat ((conv => whnf); first | refine brT ?_ | refine brF ?_)); conv => whnf)
      refine ⟨_, l1Parent_spec ps us k hi _ _ _, ?_⟩
      ((repeat ((conv => whnf); first | refine brT ?_ | refine brF ?_)); conv => whnf)
      (refine ⟨fun g2 => ?_, fun g2 => ?_⟩ <;> rw [g2])
      · ((repeat ((conv => whnf); first | refine brT ?_ | refine brF ?_)); conv => whnf)
        refine ⟨_, l1Parent_spec ps us k hi _ _ _, ?_⟩
        ((repeat ((conv => whnf); first | refine brT ?_ | refine brF ?_)); conv => whnf)
        refine fin ?_
        simp [personAt, hs, hf, g2]
      · ((repeat ((conv => whnf); first | refine brT ?_ | refine brF ?_)); conv => whnf)
        refine fin ?_
        simp [personAt, g2]
end Go.Proofs.YtbiagkccgijdlaaGreat


namespace Go.Proofs.YtbiagkccgijdlaaGreat
open Go.Lg
set_option maxHeartbeats 400000
set_option maxRecDepth 10000
set_option linter.unusedVariables false
set_option linter.unusedSimpArgs false

/-- Where a parent may stand. -/
def parIn (x : Int) (i : Nat) : Prop := x = -1 ∨ (0 ≤ x ∧ x < i)
def parsIn (ps : List Per) : Prop := ∀ (i : Nat) (h : i < ps.length), parIn ps[i].father i ∧ parIn ps[i].mother i
def dep (ds : List Int) (x : Int) : Int := match leI 0 x with | true => ds.getD x.toNat 0 + 1 | false => 0
def dep2 (ds : List Int) (p : Per) : Int := maxI (dep ds p.father) (dep ds p.mother)
def depTo (ps : List Per) : Nat → List Int
  | 0 => []
  | k + 1 => depTo ps k ++ [match ps[k]? with | some p => dep2 (depTo ps k) p | none => 0]
def depths (ps : List Per) : List Int := depTo ps ps.length
theorem depTo_len (ps : List Per) : ∀ k, (depTo ps k).length = k
  | 0 => rfl
  | k + 1 => by simp [depTo, depTo_len ps k]
theorem maxI_le {a b c : Int} (h : a ≤ c) (k : b ≤ c) : maxI a b ≤ c := by unfold maxI; split <;> omega
theorem le_maxI {a b c : Int} (h : c ≤ a) : c ≤ maxI a b := by unfold maxI; split <;> omega
theorem dep_range {ds : List Int} {n : Nat} (h : ∀ v ∈ ds, 0 ≤ v ∧ v ≤ n) (x : Int) : 0 ≤ dep ds x ∧ dep ds x ≤ n + 1 := by
  unfold dep
  split
  · rw [List.getD_eq_getElem?_getD]
    cases e : ds[x.toNat]? with
    | none => simp; omega
    | some v => have := h v (List.mem_of_getElem? e); simp; omega
  · omega
theorem depTo_range (ps : List Per) : ∀ k, ∀ v ∈ depTo ps k, 0 ≤ v ∧ v ≤ k
  | 0, v, h => by simp [depTo] at h
  | k + 1, v, h => by
    simp only [depTo, List.mem_append, List.mem_singleton] at h
    rcases h with h | rfl
    · have := depTo_range ps k v h; omega
    · split
      · rename_i p _
        have h1 := dep_range (depTo_range ps k) p.father
        have h2 := dep_range (depTo_range ps k) p.mother
        exact ⟨le_maxI h1.1, maxI_le (by omega) (by omega)⟩
      · omega
theorem depTo_succ {ps : List Per} {k : Nat} (h : k < ps.length) : depTo ps (k + 1) = depTo ps k ++ [dep2 (depTo ps k) ps[k]] := by
  simp [depTo, h]
theorem dep_some {ds : List Int} {x : Int} {i : Nat} (hl : ds.length = i) (h0 : 0 ≤ x) (h1 : x < i) : ∃ h : x.toNat < ds.length, dep ds x = ds[x.toNat] + 1 := by
  have hlt : x.toNat < ds.length := by omega
  refine ⟨hlt, ?_⟩
  unfold dep
  rw [leI_t.2 h0]
  simp [List.getD_eq_getElem?_getD, hlt]
theorem dep_none {ds : List Int} {x : Int} (h : leI 0 x = false) : dep ds x = 0 := by unfold dep; rw [h]
theorem maxI_zero {a : Int} (h : 0 ≤ a) : maxI a 0 = a := by unfold maxI; split <;> omega
theorem zero_maxI {a : Int} (h : 0 ≤ a) : maxI 0 a = a := by unfold maxI; split <;> omega

/-- spec.l1Depths -/
theorem l1Depths_spec (ps : List Per) (us : List Uni) (hl : ps.length ≤ 40) (hp : parsIn ps) : FSpec env.P 61 [famLV ps us] (.own 3 1 ((depths ps).map intLV)) := by
  refine FSpec_of_code env_ok (fn := Tryz.f61) Tryz.func61 rfl Tryz.call61 _ _ ?_
  ((repeat ((conv => whnf); first | refine brT ?_ | refine brF ?_)); conv => whnf)
  intro hn
  have hn' : ps.length ≤ Go.maxLen := by simpa using hn
  ((repeat ((conv => whnf); first | refine brT ?_ | refine brF ?_)); conv => whnf)
  refine loop_rule (α := Nat) (fun k => [(11, .int .i64 (k : Int)), (7, .undef), (3, .hs 1 ((depTo ps k).map intLV).length)]) (fun k => [.box (famLV ps us), .arr 3 1 ((depTo ps k).map intLV)])
    (fun k => ps.length - k) (fun k => k ≤ ps.length) 0 (Nat.zero_le _) ?_ ?_
  · refine ⟨?_, ⟨rfl, rfl, trivial⟩, rfl, rfl⟩
    ((repeat ((conv => whnf); refine ⟨rfl, ?_⟩)); trivial)
  intro k hk
  ((repeat ((conv => whnf); first | refine brT ?_ | refine brF ?_)); conv => whnf)
  (refine ⟨fun h1 => ?_, fun h1 => ?_⟩ <;> rw [h1])
  · have hlt : k < ps.length := by rw [ltI_t] at h1; simp at h1; omega
    have hps := hp k hlt
    have hdl := depTo_len ps k
    have hrg := depTo_range ps k
    have e := step_i hlt hn'
    ((repeat ((conv => whnf); first | refine brT ?_ | refine brF ?_)); conv => whnf)
    refine ⟨k, ps[k].lv, rfl, by simp [hlt], rfl, ?_⟩
    have hrow : ∀ (v : Int), v = dep2 (depTo ps k) ps[k] → ((depTo ps k).map intLV ++ [LV.int .i64 v]) = (depTo ps (k + 1)).map intLV := fun v hv => by
      rw [depTo_succ hlt, List.map_append, hv]; rfl
    have hlen : ((depTo ps (k + 1)).map intLV).length = k + 1 := by simp [depTo_len]
    -- what the append asks for, and the round's end
    have hm1 : k + 1 ≤ Go.maxLen := by unfold Go.maxLen; omega
    have hm2 : (k + 1) * 8 ≤ 140737488355328 := by omega
    ((repeat ((conv => whnf); first | refine brT ?_ | refine brF ?_)); conv => whnf)
    (refine ⟨fun f1 => ?_, fun f1 => ?_⟩ <;> rw [f1])
    · have hf0 : 0 ≤ ps[k].father := leI_t.1 f1
      have hf1 : ps[k].father < k := by rcases hps.1 with h | h <;> omega
      obtain ⟨hfl, hfd⟩ := dep_some hdl hf0 hf1
      have hfr := hrg _ (List.getElem_mem hfl)
      ((repeat ((conv => whnf); first | refine brT ?_ | refine brF ?_)); conv => whnf)
      refine ⟨rfl, rfl, ps[k].father.toNat, by omega, by simpa using hfl, ?_⟩
      ((repeat ((conv => whnf); first | refine brT ?_ | refine brF ?_)); conv => whnf)
      refine ⟨rfl, by simp, .int .i64 (depTo ps k)[ps[k].father.toNat], by simp [getP, hfl, intLV], rfl, ?_⟩
      ((repeat ((conv => whnf); first | refine brT ?_ | refine brF ?_)); conv => whnf)
      (refine ⟨fun m1 => ?_, fun m1 => ?_⟩ <;> rw [m1])
      · have hm0 : 0 ≤ ps[k].mother := leI_t.1 m1
        have hm1' : ps[k].mother < k := by rcases hps.2 with h | h <;> omega
        obtain ⟨hml, hmd⟩ := dep_some hdl hm0 hm1'
        have hmr := hrg _ (List.getElem_mem hml)
        ((repeat ((conv => whnf); first | refine brT ?_ | refine brF ?_)); conv => whnf)
        refine ⟨rfl, rfl, ps[k].mother.toNat, by omega, by simpa using hml, ?_⟩
        ((repeat ((conv => whnf); first | refine brT ?_ | refine brF ?_)); conv => whnf)
        refine ⟨rfl, by simp, .int .i64 (depTo ps k)[ps[k].mother.toNat], by simp [getP, hml, intLV], rfl, ?_⟩
        have hv := hrow (maxI (IntKind.i64.wrap ((depTo ps k)[ps[k].father.toNat] + 1)) (IntKind.i64.wrap ((depTo ps k)[ps[k].mother.toNat] + 1)))
          (by rw [wrap64 (by omega) (by omega), wrap64 (by omega) (by omega)]; unfold dep2; rw [hfd, hmd])
        ((repeat ((conv => whnf); first | refine brT ?_ | refine brF ?_)); conv => whnf)
        refine ⟨rfl, rfl, ?_, ?_, ?_⟩
        · rw [hv, hlen]; exact hm1
        · rw [hv, hlen]; exact hm2
        ((repeat ((conv => whnf); first | refine brT ?_ | refine brF ?_)); conv => whnf)
        refine round_endR [.old 0, .old 4] (k + 1) hlt (by omega) ⟨?_, ⟨rfl, rfl, rfl, congrArg (Blk.arr 3 1) hv, trivial⟩, rfl⟩
        have e3 := congrArg (fun l : List LV => LV.hs 1 l.length) hv
        repeat ((conv => whnf); first | refine ⟨rfl, e, ?_⟩ | refine ⟨rfl, e3, ?_⟩ | refine ⟨rfl, rfl, ?_⟩)
        trivial
      · have hv := hrow (IntKind.i64.wrap ((depTo ps k)[ps[k].father.toNat] + 1))
          (by rw [wrap64 (by omega) (by omega)]; unfold dep2; rw [hfd, dep_none m1, maxI_zero (by omega)])
        ((repeat ((conv => whnf); first | refine brT ?_ | refine brF ?_)); conv => whnf)
        refine ⟨rfl, rfl, ?_, ?_, ?_⟩
        · rw [hv, hlen]; exact hm1
        · rw [hv, hlen]; exact hm2
        ((repeat ((conv => whnf); first | refine brT ?_ | refine brF ?_)); conv => whnf)
        refine round_endR [.old 0, .old 4] (k + 1) hlt (by omega) ⟨?_, ⟨rfl, rfl, rfl, congrArg (Blk.arr 3 1) hv, trivial⟩, rfl⟩
        have e3 := congrArg (fun l : List LV => LV.hs 1 l.length) hv
        repeat ((conv => whnf); first | refine ⟨rfl, e, ?_⟩ | refine ⟨rfl, e3, ?_⟩ | refine ⟨rfl, rfl, ?_⟩)
        trivial
    · ((repeat ((conv => whnf); first | refine brT ?_ | refine brF ?_)); conv => whnf)
      (refine ⟨fun m1 => ?_, fun m1 => ?_⟩ <;> rw [m1])
      · have hm0 : 0 ≤ ps[k].mother := leI_t.1 m1
        have hm1' : ps[k].mother < k := by rcases hps.2 with h | h <;> omega
        obtain ⟨hml, hmd⟩ := dep_some hdl hm0 hm1'
        have hmr := hrg _ (List.getElem_mem hml)
        ((repeat ((conv => whnf); first | refine brT ?_ | refine brF ?_)); conv => whnf)
        refine ⟨rfl, rfl, ps[k].mother.toNat, by omega, by simpa using hml, ?_⟩
        ((repeat ((conv => whnf); first | refine brT ?_ | refine brF ?_)); conv => whnf)
        refine ⟨rfl, by simp, .int .i64 (depTo ps k)[ps[k].mother.toNat], by simp [getP, hml, intLV], rfl, ?_⟩
        have hv := hrow (maxI 0 (IntKind.i64.wrap ((depTo ps k)[ps[k].mother.toNat] + 1)))
          (by rw [wrap64 (by omega) (by omega)]; unfold dep2; rw [hmd, dep_none f1])
        ((repeat ((conv => whnf); first | refine brT ?_ | refine brF ?_)); conv => whnf)
        refine ⟨rfl, rfl, ?_, ?_, ?_⟩
        · rw [hv, hlen]; exact hm1
        · rw [hv, hlen]; exact hm2
        ((repeat ((conv => whnf); first | refine brT ?_ | refine brF ?_)); conv => whnf)
        refine round_endR [.old 0, .old 4] (k + 1) hlt (by omega) ⟨?_, ⟨rfl, rfl, rfl, congrArg (Blk.arr 3 1) hv, trivial⟩, rfl⟩
        have e3 := congrArg (fun l : List LV => LV.hs 1 l.length) hv
        repeat ((conv => whnf); first | refine ⟨rfl, e, ?_⟩ | refine ⟨rfl, e3, ?_⟩ | refine ⟨rfl, rfl, ?_⟩)
        trivial
      · have hv := hrow 0 (by unfold dep2; rw [dep_none m1, dep_none f1]; rw [maxI_zero (by omega)])
        ((repeat ((conv => whnf); first | refine brT ?_ | refine brF ?_)); conv => whnf)
        refine ⟨rfl, rfl, ?_, ?_, ?_⟩
        · rw [hv, hlen]; exact hm1
        · rw [hv, hlen]; exact hm2
        ((repeat ((conv => whnf); first | refine brT ?_ | refine brF ?_)); conv => whnf)
        refine round_endR [.old 0, .old 4] (k + 1) hlt (by omega) ⟨?_, ⟨rfl, rfl, rfl, congrArg (Blk.arr 3 1) hv, trivial⟩, rfl⟩
        have e3 := congrArg (fun l : List LV => LV.hs 1 l.length) hv
        repeat ((conv => whnf); first | refine ⟨rfl, e, ?_⟩ | refine ⟨rfl, e3, ?_⟩ | refine ⟨rfl, rfl, ?_⟩)
        trivial
  · have h3 : k = ps.length := by rw [ltI_f] at h1; simp at h1; omega
    subst h3
    ((repeat ((conv => whnf); first | refine brT ?_ | refine brF ?_)); conv => whnf)
    exact ⟨rfl, rfl, rfl, rfl, by simp⟩
end Go.Proofs.YtbiagkccgijdlaaGreat


namespace Go.Proofs.YtbiagkccgijdlaaGreat
open Go.Lg
set_option maxHeartbeats 400000
set_option maxRecDepth 10000
set_option linter.unusedVariables false
set_option linter.unusedSimpArgs false

def rowD (ds : List Int) (v : Int) (m : Nat) : List LV := (ds ++ v :: List.replicate m 0).map intLV
theorem rowD_len (ds : List Int) (v : Int) (m : Nat) : (rowD ds v m).length = ds.length + 1 + m := by simp [rowD]; omega
theorem rowD_at (ds : List Int) (v : Int) (m : Nat) : getP (.st (rowD ds v m)) [ds.length] = some (.int .i64 v) := by
  simp [rowD, getP, intLV]
theorem rowD_lt {ds : List Int} {v : Int} {m i : Nat} (h : i < ds.length) : getP (.st (rowD ds v m)) [i] = some (.int .i64 ds[i]) := by
  have : (rowD ds v m)[i]? = some (.int .i64 ds[i]) := by
    unfold rowD
    rw [List.getElem?_map, List.getElem?_append_left h, List.getElem?_eq_getElem h]
    rfl
  simp [getP, this]
theorem rowD_set (ds : List Int) (v u : Int) (m : Nat) : (match (rowD ds v m)[ds.length]? with | some z => (rowD ds v m).set ds.length (setP z [] (.int .i64 u)) | none => rowD ds v m) = rowD ds u m := by
  have : (rowD ds v m)[ds.length]? = some (.int .i64 v) := by simp [rowD, intLV]
  rw [this]
  simp only [setP, rowD, List.map_append, List.map_cons]
  rw [List.set_append_right _ _ (by simp)]
  simp [intLV]

def rowK (ps : List Per) (k : Nat) : List LV := (depTo ps k ++ List.replicate (ps.length - k) 0).map intLV
theorem rowK_lt {ps : List Per} {k : Nat} (h : k < ps.length) : rowK ps k = rowD (depTo ps k) 0 (ps.length - k - 1) := by
  unfold rowK rowD
  rw [show ps.length - k = (ps.length - k - 1) + 1 by omega, List.replicate_succ]
  simp
theorem rowK_succ {ps : List Per} {k : Nat} (h : k < ps.length) : rowD (depTo ps k) (dep2 (depTo ps k) ps[k]) (ps.length - k - 1) = rowK ps (k + 1) := by
  unfold rowK rowD
  rw [depTo_succ h, show ps.length - (k + 1) = ps.length - k - 1 by omega]
  simp
theorem rowK_len (ps : List Per) {k : Nat} (h : k ≤ ps.length) : (rowK ps k).length = ps.length := by
  unfold rowK
  simp [depTo_len]; omega

def accD (ds : List Int) (xs : List Int) : Int := xs.foldl (fun a x => maxI a (dep ds x)) 0
theorem accD_known {ds : List Int} {p : Per} {k : Nat} (hr : ∀ v ∈ ds, 0 ≤ v ∧ v ≤ k) (hf : parIn p.father k) (hm : parIn p.mother k) : accD ds (known p) = dep2 ds p := by
  have e1 := dep_range hr p.father
  have e2 := dep_range hr p.mother
  unfold known dep2 accD
  have hn : ∀ x, notNone x = false → dep ds x = 0 := fun x h => by
    unfold notNone at h
    rw [notB_f, eqI_t] at h
    exact dep_none (by rw [leI_f]; omega)
  simp only [List.filter]
  cases h1 : notNone p.father <;> cases h2 : notNone p.mother <;> simp only [List.foldl]
  · rw [hn _ h1, hn _ h2, maxI_zero (by omega)]
  · rw [hn _ h1]
  · rw [hn _ h2, zero_maxI e1.1, maxI_zero e1.1]
  · rw [zero_maxI e1.1]
theorem known_in {p : Per} {k : Nat} (hf : parIn p.father k) (hm : parIn p.mother k) : ∀ x ∈ known p, 0 ≤ x ∧ x < k := by
  intro x hx
  simp only [known, List.mem_filter, List.mem_cons, List.not_mem_nil, or_false] at hx
  obtain ⟨h1, h2⟩ := hx
  unfold notNone at h2
  rw [notB_t, eqI_f] at h2
  rcases h1 with rfl | rfl
  · rcases hf with h | h <;> omega
  · rcases hm with h | h <;> omega
theorem accD_succ {ds xs : List Int} {j : Nat} (h : j < xs.length) : accD ds (xs.take (j + 1)) = maxI (accD ds (xs.take j)) (dep ds xs[j]) := by
  unfold accD
  rw [List.take_succ_eq_append_getElem h, List.foldl_append]
  rfl
/-- impl.depthsOf -/
theorem depthsOf_spec (ps : List Per) (hl : ps.length ≤ 40) (hp : parsIn ps) : FSpec env.P 70 [.sl (ps.map Per.lv)] (.own 3 1 ((depths ps).map intLV)) := by
  refine FSpec_of_code env_ok (fn := Tryz.f70) Tryz.func70 rfl Tryz.call70 _ _ ?_
  ((repeat ((conv => whnf); first | refine brT ?_ | refine brF ?_)); conv => whnf)
  intro hn
  have hn' : ps.length ≤ Go.maxLen := by simpa using hn
  ((repeat ((conv => whnf); first | refine brT ?_ | refine brF ?_)); conv => whnf)
  refine ⟨ps.length, by simp, by simp, by (show 8 * ps.length ≤ 281474976710656); omega, hn', rfl, by decide, ?_⟩
  ((repeat ((conv => whnf); first | refine brT ?_ | refine brF ?_)); conv => whnf)
  intro _
  ((repeat ((conv => whnf); first | refine brT ?_ | refine brF ?_)); conv => whnf)
  refine loop_rule (α := Nat) (fun k => [(13, .int .i64 (k : Int)), (3, .hs 0 (rowK ps k).length)]) (fun k => [.arr 3 1 (rowK ps k)])
    (fun k => ps.length - k) (fun k => k ≤ ps.length) 0 (Nat.zero_le _) ?_ ?_
  · have e0 : List.replicate ps.length (LV.int .i64 0) = rowK ps 0 := by simp [rowK, depTo, intLV]
    have e1 : LV.hs 0 ps.length = LV.hs 0 (rowK ps 0).length := by rw [rowK_len ps (Nat.zero_le _)]
    refine ⟨?_, ⟨congrArg (Blk.arr 3 1) e0, trivial⟩, rfl, rfl⟩
    ((repeat ((conv => whnf); first | refine ⟨e1, ?_⟩ | refine ⟨rfl, ?_⟩)); trivial)
  intro k hk
  ((repeat ((conv => whnf); first | refine brT ?_ | refine brF ?_)); conv => whnf)
  (refine ⟨fun h1 => ?_, fun h1 => ?_⟩ <;> rw [h1])
  · have hlt : k < ps.length := by rw [ltI_t] at h1; simp at h1; omega
    have hps := hp k hlt
    have hdl := depTo_len ps k
    have hrg := depTo_range ps k
    have e := step_i hlt hn'
    ((repeat ((conv => whnf); first | refine brT ?_ | refine brF ?_)); conv => whnf)
    refine ⟨k, ps[k].lv, rfl, by simp [hlt], rfl, ?_⟩
    ((repeat ((conv => whnf); first | refine brT ?_ | refine brF ?_)); conv => whnf)
    refine ⟨_, knownParents_spec ps[k], ?_⟩
    ((repeat ((conv => whnf); first | refine brT ?_ | refine brF ?_)); conv => whnf)
    intro hkn
    ((repeat ((conv => whnf); first | refine brT ?_ | refine brF ?_)); conv => whnf)
    have hkl : (known ps[k]).length ≤ Go.maxLen := by simpa using hkn
    refine loop_rule (α := Nat) (fun j => [(21, .int .i64 (j : Int)), (3, .hs 0 (rowD (depTo ps k) (accD (depTo ps k) ((known ps[k]).take j)) (ps.length - k - 1)).length)])
      (fun j => [.arr 3 1 (rowD (depTo ps k) (accD (depTo ps k) ((known ps[k]).take j)) (ps.length - k - 1)), .box ps[k].lv])
      (fun j => (known ps[k]).length - j) (fun j => j ≤ (known ps[k]).length) 0 (Nat.zero_le _) ?_ ?_
    · have e0 : rowK ps k = rowD (depTo ps k) (accD (depTo ps k) ((known ps[k]).take 0)) (ps.length - k - 1) := rowK_lt hlt
      have e1 := congrArg (fun l : List LV => LV.hs 0 l.length) e0
      refine ⟨?_, ⟨congrArg (Blk.arr 3 1) e0, rfl, trivial⟩, rfl, rfl⟩
      ((repeat ((conv => whnf); first | refine ⟨e1, ?_⟩ | refine ⟨rfl, ?_⟩)); trivial)
    intro j hj
    ((repeat ((conv => whnf); first | refine brT ?_ | refine brF ?_)); conv => whnf)
    (refine ⟨fun g1 => ?_, fun g1 => ?_⟩ <;> rw [g1])
    · have hjl : j < (known ps[k]).length := by rw [ltI_t] at g1; simp at g1; omega
      have hx := known_in hps.1 hps.2 _ (List.getElem_mem hjl)
      obtain ⟨hxl, hxd⟩ := dep_some hdl hx.1 hx.2
      have hxr := hrg _ (List.getElem_mem hxl)
      have he := step_i hjl hkl
      have hat : ∀ (v : Int) (m : Nat), getP (.st (rowD (depTo ps k) v m)) [k] = some (.int .i64 v) := fun v m => by have := rowD_at (depTo ps k) v m; rw [hdl] at this; exact this
      have hlen := rowD_len (depTo ps k) (accD (depTo ps k) ((known ps[k]).take j)) (ps.length - k - 1)
      ((repeat ((conv => whnf); first | refine brT ?_ | refine brF ?_)); conv => whnf)
      refine ⟨j, .int .i64 (known ps[k])[j], rfl, by simp [hjl, intLV], rfl, ?_⟩
      ((repeat ((conv => whnf); first | refine brT ?_ | refine brF ?_)); conv => whnf)
      refine ⟨true, by kernel_rfl, ?_⟩
      ((repeat ((conv => whnf); first | refine brT ?_ | refine brF ?_)); conv => whnf)
      refine ⟨rfl, rfl, k, rfl, by omega, ?_⟩
      ((repeat ((conv => whnf); first | refine brT ?_ | refine brF ?_)); conv => whnf)
      refine ⟨rfl, by simp, _, hat _ _, rfl, ?_⟩
      ((repeat ((conv => whnf); first | refine brT ?_ | refine brF ?_)); conv => whnf)
      refine ⟨rfl, rfl, (known ps[k])[j].toNat, by omega, by omega, ?_⟩
      ((repeat ((conv => whnf); first | refine brT ?_ | refine brF ?_)); conv => whnf)
      refine ⟨rfl, by simp, _, rowD_lt hxl, rfl, ?_⟩
      ((repeat ((conv => whnf); first | refine brT ?_ | refine brF ?_)); conv => whnf)
      refine ⟨rfl, rfl, k, rfl, by omega, ?_⟩
      ((repeat ((conv => whnf); first | refine brT ?_ | refine brF ?_)); conv => whnf)
      refine ⟨rfl, k, [], .int .i64 (accD (depTo ps k) ((known ps[k]).take j)), rfl, hat _ _, rfl, rfl, rfl, _, rfl, ?_⟩
      ((repeat ((conv => whnf); first | refine brT ?_ | refine brF ?_)); conv => whnf)
      have e2 : (match (rowD (depTo ps k) (accD (depTo ps k) ((known ps[k]).take j)) (ps.length - k - 1))[k]? with
          | some z => (rowD (depTo ps k) (accD (depTo ps k) ((known ps[k]).take j)) (ps.length - k - 1)).set k (setP z [] (.int .i64 (maxI (accD (depTo ps k) ((known ps[k]).take j)) (IntKind.i64.wrap ((depTo ps k)[(known ps[k])[j].toNat] + 1)))))
          | none => rowD (depTo ps k) (accD (depTo ps k) ((known ps[k]).take j)) (ps.length - k - 1)) = rowD (depTo ps k) (accD (depTo ps k) ((known ps[k]).take (j + 1))) (ps.length - k - 1) := by
        rw [accD_succ hjl, hxd, wrap64 (by omega) (by omega)]
        have := rowD_set (depTo ps k) (accD (depTo ps k) ((known ps[k]).take j)) (maxI (accD (depTo ps k) ((known ps[k]).take j)) ((depTo ps k)[(known ps[k])[j].toNat] + 1)) (ps.length - k - 1)
        rw [hdl] at this
        exact this
      have e3 : LV.hs 0 (rowD (depTo ps k) (accD (depTo ps k) ((known ps[k]).take j)) (ps.length - k - 1)).length = LV.hs 0 (rowD (depTo ps k) (accD (depTo ps k) ((known ps[k]).take (j + 1))) (ps.length - k - 1)).length := by rw [rowD_len, rowD_len]
      refine round_end (j + 1) hjl (by omega) ⟨?_, ⟨congrArg (Blk.arr 3 1) e2, rfl, trivial⟩, rfl, rfl⟩
      repeat ((conv => whnf); first | refine ⟨he, ?_⟩ | refine ⟨e3, ?_⟩ | refine ⟨rfl, ?_⟩)
      trivial
    · have hj3 : j = (known ps[k]).length := by rw [ltI_f] at g1; simp at g1; omega
      subst hj3
      have e2 : rowD (depTo ps k) (accD (depTo ps k) ((known ps[k]).take (known ps[k]).length)) (ps.length - k - 1) = rowK ps (k + 1) := by
        rw [List.take_length, accD_known hrg hps.1 hps.2]
        exact rowK_succ hlt
      have e3 := congrArg (fun l : List LV => LV.hs 0 l.length) e2
      ((repeat ((conv => whnf); first | refine brT ?_ | refine brF ?_)); conv => whnf)
      refine round_end (k + 1) hlt (by omega) ⟨?_, ⟨congrArg (Blk.arr 3 1) e2, trivial⟩, rfl, rfl⟩
      repeat ((conv => whnf); first | refine ⟨e, ?_⟩ | refine ⟨e3, ?_⟩ | refine ⟨rfl, ?_⟩)
      trivial
  · have h3 : k = ps.length := by rw [ltI_f] at h1; simp at h1; omega
    subst h3
    ((repeat ((conv => whnf); first | refine brT ?_ | refine brF ?_)); conv => whnf)
    exact ⟨rfl, rfl, rfl, by simp [rowK, depths], by simp⟩
end Go.Proofs.YtbiagkccgijdlaaGreat


namespace Go.Proofs.YtbiagkccgijdlaaGreat
open Go.Lg
set_option maxHeartbeats 400000
set_option maxRecDepth 10000
set_option linter.unusedVariables false
set_option linter.unusedSimpArgs false

def fits (u : Uni) (p : Per) : Bool := leI p.born u.since && livedTo p (maxI u.since u.till)
def bothFit (ps : List Per) (u : Uni) : Bool := match ps[u.husband.toNat]?, ps[u.wife.toNat]? with
  | some a, some b => fits u a && fits u b
  | _, _ => false
def unionOk (ps : List Per) (before : List Uni) (u : Uni) : Bool :=
  (ofSex ps u.husband 1 && ofSex ps u.wife 2) && ((leI u.since 9999 && endYear u.till u.since) && (notB (before.any (unitedOf u.husband u.wife)) && bothFit ps u))

theorem ofSex_lt {ps : List Per} {x sex : Int} (h : ofSex ps x sex = true) : ∃ (_ : 0 ≤ x) (h : x.toNat < ps.length), ps[x.toNat].sex = sex := by
  unfold ofSex at h
  simp only [Bool.and_eq_true, leI_t] at h
  obtain ⟨h0, h1⟩ := h
  split at h1
  · rename_i q hq
    obtain ⟨hl, rfl⟩ := List.getElem?_eq_some_iff.1 hq
    exact ⟨h0, hl, eqI_t.1 h1⟩
  · cases h1

/-- impl.isUnionAfter -/
theorem isUnionAfter_spec (ps : List Per) (us : List Uni) (u : Uni) : FSpec env.P 69 [.sl (us.map Uni.lv), u.lv, .sl (ps.map Per.lv)] (.bool (unionOk ps us u)) := by
  refine FSpec_of_code env_ok (fn := Tryz.f69) Tryz.func69 rfl Tryz.call69 _ _ ?_
  ((repeat' (((repeat ((conv => whnf); first | refine brT ?_ | refine brF ?_)); conv => whnf); first | (refine And.intro ?_ ?_ <;> (intro h; rw [h]; revert h; intro _)) | (refine Exists.intro true (And.intro (a := drawB _ _ = true) (by kernel_rfl) ?_)) | (refine Exists.intro _ (And.intro (isOfSex_spec ps _ _) ?_)) | (refine Exists.intro _ (And.intro (isEndYear_spec _ _) ?_)) | (refine Exists.intro _ (And.intro (isUnited_spec us _ _) ?_)))); all_goals ((repeat ((conv => whnf); first | refine brT ?_ | refine brF ?_)); conv => whnf))
  all_goals first
    | (refine fin ?_; grind [unionOk, notB_t, notB_f, ltI_t, ltI_f, leI_t, leI_f])
    | skip
  rename_i s1 s2 s3 s4 s5
  rw [notB_f] at s1 s2 s4
  obtain ⟨m0, ml, _⟩ := ofSex_lt s1
  obtain ⟨w0, wl, _⟩ := ofSex_lt s2
  have hb : bothFit ps u = (fits u ps[u.husband.toNat] && fits u ps[u.wife.toNat]) := by simp [bothFit, ml, wl]
  have hu : unionOk ps us u = (fits u ps[u.husband.toNat] && fits u ps[u.wife.toNat]) := by
    have s3' : leI u.since 9999 = true := by rw [leI_t]; rw [ltI_f] at s3; exact s3
    unfold unionOk
    rw [hb, s1, s2, s3', s4, s5]
    simp [notB]
  refine ⟨u.husband.toNat, ps[u.husband.toNat].lv, by omega, by simp [ml], rfl, ?_⟩
  ((repeat ((conv => whnf); first | refine brT ?_ | refine brF ?_)); conv => whnf)
  refine ⟨u.wife.toNat, ps[u.wife.toNat].lv, by omega, by simp [wl], rfl, ?_⟩
  ((repeat ((conv => whnf); first | refine brT ?_ | refine brF ?_)); conv => whnf)
  refine ⟨rfl, fun _ => ?_⟩
  ((repeat ((conv => whnf); first | refine brT ?_ | refine brF ?_)); conv => whnf)
  generalize ps[u.husband.toNat] = a at hu ⊢
  generalize ps[u.wife.toNat] = b at hu ⊢
  refine loop_rule (α := Nat) (fun k => [(58, .int .i64 (k : Int))]) (fun k => [.box u.lv, .arr 57 6 [a.lv, b.lv]]) (fun k => 2 - k) (fun k => k ≤ 2 ∧ ∀ j (h : j < 2), j < k → fits u ([a, b][j]'h) = true) 0 ⟨Nat.zero_le _, fun j h k => by omega⟩ ?_ ?_
  · refine ⟨?_, ⟨rfl, rfl, trivial⟩, rfl, rfl⟩
    ((repeat ((conv => whnf); refine ⟨rfl, ?_⟩)); trivial)
  rintro k ⟨hk, hf⟩
  ((repeat ((conv => whnf); first | refine brT ?_ | refine brF ?_)); conv => whnf)
  (refine ⟨fun h1 => ?_, fun h1 => ?_⟩ <;> rw [h1])
  · have hlt : k < 2 := by rw [ltI_t] at h1; simp at h1; omega
    have e : LV.int .i64 (IntKind.i64.wrap ((k : Int) + 1)) = LV.int .i64 ((k + 1 : Nat) : Int) := step_i hlt (by decide)
    have hno : fits u ([a, b][k]'hlt) = false → unionOk ps us u = false := fun h => by
      rw [hu]
      match k, hlt, h with
      | 0, _, h => simp at h; simp [h]
      | 1, _, h => simp at h; simp [h]
    ((repeat ((conv => whnf); first | refine brT ?_ | refine brF ?_)); conv => whnf)
    refine ⟨rfl, by decide, k, rfl, hlt, ?_⟩
    ((repeat ((conv => whnf); first | refine brT ?_ | refine brF ?_)); conv => whnf)
    refine ⟨rfl, by simp, ([a, b][k]'hlt).lv, ?_, rfl, ?_⟩
    · match k, hlt with
      | 0, _ => rfl
      | 1, _ => rfl
    ((repeat' (((repeat ((conv => whnf); first | refine brT ?_ | refine brF ?_)); conv => whnf); first | (refine And.intro ?_ ?_ <;> (intro h; rw [h]; revert h; intro _)) | (refine Exists.intro true (And.intro (a := drawB _ _ = true) (by kernel_rfl) ?_)) | (refine Exists.intro _ (And.intro (livedTo_spec ([a, b][k]'hlt) _) ?_)))); all_goals ((repeat ((conv => whnf); first | refine brT ?_ | refine brF ?_)); conv => whnf))
    · refine fin ?_
      rw [hno]
      grind [fits, notB_t, notB_f, ltI_t, ltI_f, leI_t, leI_f]
    · refine fin ?_
      rw [hno]
      grind [fits, notB_t, notB_f, ltI_t, ltI_f, leI_t, leI_f]
    · rename_i g1 g2
      refine round_end (k + 1) ⟨hlt, fun j hj hjk => ?_⟩ (by omega) ⟨?_, ⟨rfl, rfl, trivial⟩, rfl, rfl⟩
      · by_cases ej : j = k
        · subst ej
          grind [fits, notB_t, notB_f, ltI_t, ltI_f, leI_t, leI_f]
        · exact hf j hj (by omega)
      · ((repeat ((conv => whnf); first | refine ⟨e, ?_⟩ | refine ⟨rfl, ?_⟩)); trivial)
  · have h3 : k = 2 := by rw [ltI_f] at h1; simp at h1; omega
    subst h3
    ((repeat ((conv => whnf); first | refine brT ?_ | refine brF ?_)); conv => whnf)
    refine fin ?_
    have f0 := hf 0 (by omega) (by omega)
    have f1 := hf 1 (by omega) (by omega)
    simp at f0 f1
    rw [hu, f0, f1]
    rfl
end Go.Proofs.YtbiagkccgijdlaaGreat


namespace Go.Proofs.YtbiagkccgijdlaaGreat
open Go.Lg
set_option maxHeartbeats 800000
set_option maxRecDepth 10000
set_option linter.unusedVariables false
set_option linter.unusedSimpArgs false

theorem in_iff {x : Int} {n : Nat} (hn : n ≤ 1000) : (leI 0 x && leI x (IntKind.i64.wrap ((n : Int) - 1))) = true ↔ 0 ≤ x ∧ x < n := by
  rw [wrap64 (by omega) (by omega), Bool.and_eq_true, leI_t, leI_t]
  omega

theorem unitedTo_succ {us : List Uni} {m f : Int} {j : Nat} (h : j < us.length) : (us.take (j + 1)).any (unitedOf m f) = ((us.take j).any (unitedOf m f) || unitedOf m f us[j]) := by
  rw [List.take_succ_eq_append_getElem h, List.any_append]
  simp
theorem united_yes {us : List Uni} {m f : Int} {j k : Nat} (hj : j < k) (h : j < us.length) (e : unitedOf m f us[j] = true) : (us.take k).any (unitedOf m f) = true := by
  rw [List.any_eq_true]
  refine ⟨us[j], ?_, e⟩
  rw [List.mem_take_iff_getElem]
  exact ⟨j, by omega, rfl⟩

/-- spec.l1Union -/
theorem l1Union_spec (ps : List Per) (us : List Uni) (k : Nat) (hk : k < us.length) (hl : ps.length ≤ 40) (hul : us.length ≤ 60) : FSpec env.P 62 [famLV ps us, .int .i64 (k : Int)] (.bool (unionOk ps (us.take k) us[k])) := by
  refine FSpec_of_code env_ok (fn := Tryz.f62) Tryz.func62 rfl Tryz.call62 _ _ ?_
  ((repeat ((conv => whnf); first | refine brT ?_ | refine brF ?_)); conv => whnf)
  refine ⟨k, us[k].lv, rfl, by simp [hk], rfl, ?_⟩
  ((repeat ((conv => whnf); first | refine brT ?_ | refine brF ?_)); conv => whnf)
  intro hn
  have hlen : ((ps.map Per.lv).length : Int) = ps.length := by simp
  rw [hlen]
  have hin : ∀ x : Int, (leI 0 x && leI x (IntKind.i64.wrap ((ps.length : Int) - 1))) = true ↔ 0 ≤ x ∧ x < ps.length := fun x => in_iff (by omega)
  have hno : ∀ x s : Int, ¬ (0 ≤ x ∧ x < ps.length) → ofSex ps x s = false := fun x s h => by
    cases e : ofSex ps x s with
    | false => rfl
    | true => obtain ⟨a, b, _⟩ := ofSex_lt e; exact absurd ⟨a, by omega⟩ h
  have hsex : ∀ (x s : Int) (h0 : 0 ≤ x) (h : x.toNat < ps.length), ofSex ps x s = eqI ps[x.toNat].sex s := fun x s h0 h => by
    unfold ofSex; rw [leI_t.2 h0, List.getElem?_eq_getElem h]; rfl
  ((repeat' (((repeat ((conv => whnf); first | refine brT ?_ | refine brF ?_)); conv => whnf); first | (refine And.intro ?_ ?_ <;> (intro h; rw [h]; revert h; intro _)) | (refine Exists.intro true (And.intro (a := drawB _ _ = true) (by kernel_rfl) ?_)) | (refine Exists.intro _ (And.intro (l1In_spec _ _ _) ?_)))); all_goals ((repeat ((conv => whnf); first | refine brT ?_ | refine brF ?_)); conv => whnf))
  all_goals first
    | (refine fin ?_; grind [unionOk, notB_t, notB_f])
    | skip
  rename_i a1 a2
  rw [notB_f, hin] at a1 a2
  have ml : us[k].husband.toNat < ps.length := by omega
  have wl : us[k].wife.toNat < ps.length := by omega
  have hm := hsex us[k].husband 1 a1.1 ml
  have hw := hsex us[k].wife 2 a2.1 wl
  have hb : bothFit ps us[k] = (fits us[k] ps[us[k].husband.toNat] && fits us[k] ps[us[k].wife.toNat]) := by simp [bothFit, ml, wl]
  refine ⟨us[k].husband.toNat, ps[us[k].husband.toNat].lv, by omega, by simp [ml], rfl, ?_⟩
  ((repeat ((conv => whnf); first | refine brT ?_ | refine brF ?_)); conv => whnf)
  (refine ⟨fun b1 => ?_, fun b1 => ?_⟩ <;> rw [b1])
  · rw [notB_t] at b1
    ((repeat ((conv => whnf); first | refine brT ?_ | refine brF ?_)); conv => whnf); refine fin ?_
    simp [unionOk, hm, b1]
  rw [notB_f] at b1
  ((repeat ((conv => whnf); first | refine brT ?_ | refine brF ?_)); conv => whnf)
  refine ⟨us[k].wife.toNat, ps[us[k].wife.toNat].lv, by omega, by simp [wl], rfl, ?_⟩
  ((repeat' (((repeat ((conv => whnf); first | refine brT ?_ | refine brF ?_)); conv => whnf); first | (refine And.intro ?_ ?_ <;> (intro h; rw [h]; revert h; intro _)) | (refine Exists.intro true (And.intro (a := drawB _ _ = true) (by kernel_rfl) ?_)) | (refine Exists.intro _ (And.intro (l1In_spec _ _ _) ?_)))); all_goals ((repeat ((conv => whnf); first | refine brT ?_ | refine brF ?_)); conv => whnf))
  all_goals first
    | (refine fin ?_; grind [unionOk, endYear, notB_t, notB_f, ltI_t, ltI_f, leI_t, leI_f])
    | skip
  all_goals
    have hu : unionOk ps (us.take k) us[k] = (notB ((us.take k).any (unitedOf us[k].husband us[k].wife)) && (fits us[k] ps[us[k].husband.toNat] && fits us[k] ps[us[k].wife.toNat])) := by
      have s3 : leI us[k].since 9999 = true := by grind [ltI_t, ltI_f, leI_t, leI_f]
      have s4 : endYear us[k].till us[k].since = true := by grind [endYear, notB_t, notB_f]
      have s5 : ofSex ps us[k].wife 2 = true := by grind [notB_t, notB_f]
      unfold unionOk
      rw [hb, hm, b1, s3, s4, s5]
      simp
    refine ⟨rfl, fun _ => ?_⟩
    ((repeat ((conv => whnf); first | refine brT ?_ | refine brF ?_)); conv => whnf)
    refine loop_rule (α := Nat) (fun j => [(75, .int .i64 (j : Int))]) (fun j => [.box (famLV ps us), .box us[k].lv, .arr 3 1 [.int .i64 us[k].husband, .int .i64 us[k].wife]]) (fun j => 2 - j)
      (fun j => j ≤ 2 ∧ ∀ i (h : i < 2), i < j → fits us[k] ([ps[us[k].husband.toNat], ps[us[k].wife.toNat]][i]'h) = true) 0 ⟨Nat.zero_le _, fun j h k => by omega⟩ ?_ ?_
    · refine ⟨?_, ⟨rfl, rfl, rfl, trivial⟩, rfl, rfl⟩
      ((repeat ((conv => whnf); refine ⟨rfl, ?_⟩)); trivial)
    rintro j ⟨hj, hf⟩
    ((repeat ((conv => whnf); first | refine brT ?_ | refine brF ?_)); conv => whnf)
    (refine ⟨fun h1 => ?_, fun h1 => ?_⟩ <;> rw [h1])
    · have hlt : j < 2 := by rw [ltI_t] at h1; simp at h1; omega
      have e : LV.int .i64 (IntKind.i64.wrap ((j : Int) + 1)) = LV.int .i64 ((j + 1 : Nat) : Int) := step_i hlt (by decide)
      have hfno : fits us[k] ([ps[us[k].husband.toNat], ps[us[k].wife.toNat]][j]'hlt) = false → unionOk ps (us.take k) us[k] = false := fun h => by
        rw [hu]
        match j, hlt, h with
        | 0, _, h => simp at h; simp [h]
        | 1, _, h => simp at h; simp [h]
      have hx : ∃ x : Int, ([LV.int .i64 us[k].husband, LV.int .i64 us[k].wife])[j]? = some (.int .i64 x) ∧ 0 ≤ x ∧ ∃ h : x.toNat < ps.length, ps[x.toNat] = [ps[us[k].husband.toNat], ps[us[k].wife.toNat]][j]'hlt := by
        match j, hlt with
        | 0, _ => exact ⟨_, rfl, a1.1, ml, rfl⟩
        | 1, _ => exact ⟨_, rfl, a2.1, wl, rfl⟩
      obtain ⟨x, hx1, hx2, hx3, hx4⟩ := hx
      ((repeat ((conv => whnf); first | refine brT ?_ | refine brF ?_)); conv => whnf)
      refine ⟨rfl, by decide, j, rfl, hlt, ?_⟩
      ((repeat ((conv => whnf); first | refine brT ?_ | refine brF ?_)); conv => whnf)
      refine ⟨rfl, by simp, .int .i64 x, by simp only [getP, hx1], rfl, ?_⟩
      ((repeat ((conv => whnf); first | refine brT ?_ | refine brF ?_)); conv => whnf)
      refine ⟨x.toNat, ps[x.toNat].lv, by omega, by simp [hx3], rfl, ?_⟩
      rw [hx4]
      generalize hq : [ps[us[k].husband.toNat], ps[us[k].wife.toNat]][j]'hlt = q at hfno
      ((repeat' (((repeat ((conv => whnf); first | refine brT ?_ | refine brF ?_)); conv => whnf); (refine And.intro ?_ ?_ <;> (intro h; rw [h]; revert h; intro _)))); all_goals ((repeat ((conv => whnf); first | refine brT ?_ | refine brF ?_)); conv => whnf))
      all_goals first
        | (refine fin ?_
           rw [hfno]
           have hmx : leI (maxI us[k].since us[k].till) q.died = (leI us[k].since q.died && leI us[k].till q.died) := by
             rw [Bool.eq_iff_iff]; simp only [Bool.and_eq_true, leI_t]; unfold maxI; split <;> omega
           simp only [fits, livedTo, hmx]
           grind [notB_t, notB_f, ltI_t, ltI_f, leI_t, leI_f, eqI_t, eqI_f])
        | skip
      all_goals
        refine round_end (j + 1) ⟨hlt, fun i hi hij => ?_⟩ (by omega) ⟨?_, ⟨rfl, rfl, rfl, trivial⟩, rfl, rfl⟩
        · by_cases ej : i = j
          · subst ej
            rw [hq]
            have hmx : leI (maxI us[k].since us[k].till) q.died = (leI us[k].since q.died && leI us[k].till q.died) := by
              rw [Bool.eq_iff_iff]; simp only [Bool.and_eq_true, leI_t]; unfold maxI; split <;> omega
            simp only [fits, livedTo, hmx]
            grind [notB_t, notB_f, ltI_t, ltI_f, leI_t, leI_f, eqI_t, eqI_f]
          · exact hf i hi (by omega)
        · ((repeat ((conv => whnf); first | refine ⟨e, ?_⟩ | refine ⟨rfl, ?_⟩)); trivial)
    · have h3 : j = 2 := by rw [ltI_f] at h1; simp at h1; omega
      subst h3
      have f0 := hf 0 (by omega) (by omega)
      have f1 := hf 1 (by omega) (by omega)
      simp at f0 f1
      have hu' : unionOk ps (us.take k) us[k] = notB ((us.take k).any (unitedOf us[k].husband us[k].wife)) := by rw [hu, f0, f1]; simp
      ((repeat ((conv => whnf); first | refine brT ?_ | refine brF ?_)); conv => whnf)
      refine loop_rule (α := Nat) (fun j => [(10, .int .i64 (j : Int))]) (fun j => [.box (famLV ps us), .box us[k].lv, .arr 3 1 [.int .i64 us[k].husband, .int .i64 us[k].wife]]) (fun j => k - j)
        (fun j => j ≤ k ∧ (us.take j).any (unitedOf us[k].husband us[k].wife) = false) 0 ⟨Nat.zero_le _, rfl⟩ ?_ ?_
      · refine ⟨?_, ⟨rfl, rfl, rfl, trivial⟩, rfl, rfl⟩
        ((repeat ((conv => whnf); refine ⟨rfl, ?_⟩)); trivial)
      rintro j ⟨hj, hf⟩
      ((repeat ((conv => whnf); first | refine brT ?_ | refine brF ?_)); conv => whnf)
      (refine ⟨fun g1 => ?_, fun g1 => ?_⟩ <;> rw [g1])
      · have hjl : j < k := by rw [ltI_t] at g1; omega
        have hju : j < us.length := by omega
        have e := step_i hjl (by unfold Go.maxLen; omega)
        ((repeat ((conv => whnf); first | refine brT ?_ | refine brF ?_)); conv => whnf)
        refine ⟨true, by kernel_rfl, ?_⟩
        ((repeat ((conv => whnf); first | refine brT ?_ | refine brF ?_)); conv => whnf)
        refine ⟨j, us[j].lv, rfl, by simp [hju], rfl, ?_⟩
        ((repeat ((conv => whnf); first | refine brT ?_ | refine brF ?_)); conv => whnf)
        (refine ⟨fun g2 => ?_, fun g2 => ?_⟩ <;> rw [g2])
        · ((repeat ((conv => whnf); first | refine brT ?_ | refine brF ?_)); conv => whnf)
          refine ⟨j, us[j].lv, rfl, by simp [hju], rfl, ?_⟩
          ((repeat ((conv => whnf); first | refine brT ?_ | refine brF ?_)); conv => whnf)
          (refine ⟨fun g3 => ?_, fun g3 => ?_⟩ <;> rw [g3])
          · ((repeat ((conv => whnf); first | refine brT ?_ | refine brF ?_)); conv => whnf)
            refine fin ?_
            rw [hu', united_yes hjl hju (by simp [unitedOf, g2, g3])]
            simp [notB]
          · ((repeat ((conv => whnf); first | refine brT ?_ | refine brF ?_)); conv => whnf)
            refine round_end (j + 1) ⟨hjl, by rw [unitedTo_succ hju, hf]; simp [unitedOf, g3]⟩ (by omega) ⟨?_, ⟨rfl, rfl, rfl, trivial⟩, rfl, rfl⟩
            ((repeat ((conv => whnf); first | refine ⟨e, ?_⟩ | refine ⟨rfl, ?_⟩)); trivial)
        · ((repeat ((conv => whnf); first | refine brT ?_ | refine brF ?_)); conv => whnf)
          refine round_end (j + 1) ⟨hjl, by rw [unitedTo_succ hju, hf]; simp [unitedOf, g2]⟩ (by omega) ⟨?_, ⟨rfl, rfl, rfl, trivial⟩, rfl, rfl⟩
          ((repeat ((conv => whnf); first | refine ⟨e, ?_⟩ | refine ⟨rfl, ?_⟩)); trivial)
      · have hjk : j = k := by rw [ltI_f] at g1; omega
        subst hjk
        ((repeat ((conv => whnf); first | refine brT ?_ | refine brF ?_)); conv => whnf)
        refine fin ?_
        rw [hu', hf]
        simp [notB]
end Go.Proofs.YtbiagkccgijdlaaGreat


namespace Go.Proofs.YtbiagkccgijdlaaGreat
open Go.Lg
set_option maxHeartbeats 400000
set_option maxRecDepth 10000
set_option linter.unusedVariables false
set_option linter.unusedSimpArgs false

/-- impl.isPersonAfter -/
def personOk (ps : List Per) (p : Per) : Bool := match findFrom p.name 0 ps with
  | some _ => false
  | none => isName p.name && ((eqI p.sex 1 || eqI p.sex 2) && ((leI 0 p.born && (leI p.born 9999 && endYear p.died p.born)) &&
      (parentOk ps p.father 1 p.born && parentOk ps p.mother 2 p.born)))
theorem isPersonAfter_spec (ps : List Per) (p : Per) : FSpec env.P 68 [.sl (ps.map Per.lv), p.lv] (.bool (personOk ps p)) := by
  refine FSpec_of_code env_ok (fn := Tryz.f68) Tryz.func68 rfl Tryz.call68 _ _ ?_
  ((repeat ((conv => whnf); first | refine brT ?_ | refine brF ?_)); conv => whnf)
  refine ⟨_, indexOfName_spec ps p.name, ?_⟩
  cases hf : findFrom p.name 0 ps with
  | some i =>
    ((repeat ((conv => whnf); first | refine brT ?_ | refine brF ?_)); conv => whnf)
    refine fin ?_
    simp [personOk, hf]
  | none =>
    ((repeat ((conv => whnf); first | refine brT ?_ | refine brF ?_)); conv => whnf)
    refine ⟨_, isNameImpl_spec p.name, ?_⟩
    ((repeat ((conv => whnf); first | refine brT ?_ | refine brF ?_)); conv => whnf)
    refine ⟨fun h => ?_, fun h => ?_⟩ <;> rw [h]
    · ((repeat ((conv => whnf); first | refine brT ?_ | refine brF ?_)); conv => whnf); refine fin ?_; rw [notB_t] at h; simp [personOk, hf, h]
    rw [notB_f] at h
    ((repeat ((conv => whnf); first | refine brT ?_ | refine brF ?_)); conv => whnf)
    refine ⟨fun h1 => ?_, fun h1 => ?_⟩ <;> rw [h1]
    · rw [notB_t] at h1
      ((repeat ((conv => whnf); first | refine brT ?_ | refine brF ?_)); conv => whnf)
      refine ⟨fun h2 => ?_, fun h2 => ?_⟩ <;> rw [h2]
      · ((repeat ((conv => whnf); first | refine brT ?_ | refine brF ?_)); conv => whnf); refine fin ?_; rw [notB_t] at h2; simp [personOk, hf, h1, h2]
      rw [notB_f] at h2
      have hs : (eqI p.sex 1 || eqI p.sex 2) = true := by simp [h2]
      ((repeat ((conv => whnf); first | refine brT ?_ | refine brF ?_)); conv => whnf)
      refine ⟨fun b1 => ?_, fun b1 => ?_⟩ <;> rw [b1]
      · ((repeat ((conv => whnf); first | refine brT ?_ | refine brF ?_)); conv => whnf); refine fin ?_; have c1 : leI 0 p.born = false := by rw [leI_f]; rw [ltI_t] at b1; exact b1
        simp [personOk, hf, c1]
      have c1 : leI 0 p.born = true := by rw [leI_t]; rw [ltI_f] at b1; exact b1
      ((repeat ((conv => whnf); first | refine brT ?_ | refine brF ?_)); conv => whnf)
      refine ⟨fun b2 => ?_, fun b2 => ?_⟩ <;> rw [b2]
      · ((repeat ((conv => whnf); first | refine brT ?_ | refine brF ?_)); conv => whnf); refine fin ?_; have c2 : leI p.born 9999 = false := by rw [leI_f]; rw [ltI_t] at b2; exact b2
        simp [personOk, hf, c2]
      have c2 : leI p.born 9999 = true := by rw [leI_t]; rw [ltI_f] at b2; exact b2
      ((repeat ((conv => whnf); first | refine brT ?_ | refine brF ?_)); conv => whnf)
      refine ⟨_, isEndYear_spec _ _, ?_⟩
      ((repeat ((conv => whnf); first | refine brT ?_ | refine brF ?_)); conv => whnf)
      refine ⟨fun b3 => ?_, fun b3 => ?_⟩ <;> rw [b3]
      · ((repeat ((conv => whnf); first | refine brT ?_ | refine brF ?_)); conv => whnf); refine fin ?_; rw [notB_t] at b3; simp [personOk, hf, b3]
      rw [notB_f] at b3
      ((repeat ((conv => whnf); first | refine brT ?_ | refine brF ?_)); conv => whnf)
      refine ⟨_, isParentOf_spec ps _ _ _, ?_⟩
      ((repeat ((conv => whnf); first | refine brT ?_ | refine brF ?_)); conv => whnf)
      refine ⟨fun b4 => ?_, fun b4 => ?_⟩ <;> rw [b4]
      · ((repeat ((conv => whnf); first | refine brT ?_ | refine brF ?_)); conv => whnf)
        refine ⟨_, isParentOf_spec ps _ _ _, ?_⟩
        ((repeat ((conv => whnf); first | refine brT ?_ | refine brF ?_)); conv => whnf); refine fin ?_; simp [personOk, hf, h, hs, c1, c2, b3, b4]
      · ((repeat ((conv => whnf); first | refine brT ?_ | refine brF ?_)); conv => whnf); refine fin ?_; simp [personOk, hf, b4]
    · rw [notB_f] at h1
      have hs : (eqI p.sex 1 || eqI p.sex 2) = true := by simp [h1]
      ((repeat ((conv => whnf); first | refine brT ?_ | refine brF ?_)); conv => whnf)
      refine ⟨fun b1 => ?_, fun b1 => ?_⟩ <;> rw [b1]
      · ((repeat ((conv => whnf); first | refine brT ?_ | refine brF ?_)); conv => whnf); refine fin ?_; have c1 : leI 0 p.born = false := by rw [leI_f]; rw [ltI_t] at b1; exact b1
        simp [personOk, hf, c1]
      have c1 : leI 0 p.born = true := by rw [leI_t]; rw [ltI_f] at b1; exact b1
      ((repeat ((conv => whnf); first | refine brT ?_ | refine brF ?_)); conv => whnf)
      refine ⟨fun b2 => ?_, fun b2 => ?_⟩ <;> rw [b2]
      · ((repeat ((conv => whnf); first | refine brT ?_ | refine brF ?_)); conv => whnf); refine fin ?_; have c2 : leI p.born 9999 = false := by rw [leI_f]; rw [ltI_t] at b2; exact b2
        simp [personOk, hf, c2]
      have c2 : leI p.born 9999 = true := by rw [leI_t]; rw [ltI_f] at b2; exact b2
      ((repeat ((conv => whnf); first | refine brT ?_ | refine brF ?_)); conv => whnf)
      refine ⟨_, isEndYear_spec _ _, ?_⟩
      ((repeat ((conv => whnf); first | refine brT ?_ | refine brF ?_)); conv => whnf)
      refine ⟨fun b3 => ?_, fun b3 => ?_⟩ <;> rw [b3]
      · ((repeat ((conv => whnf); first | refine brT ?_ | refine brF ?_)); conv => whnf); refine fin ?_; rw [notB_t] at b3; simp [personOk, hf, b3]
      rw [notB_f] at b3
      ((repeat ((conv => whnf); first | refine brT ?_ | refine brF ?_)); conv => whnf)
      refine ⟨_, isParentOf_spec ps _ _ _, ?_⟩
      ((repeat ((conv => whnf); first | refine brT ?_ | refine brF ?_)); conv => whnf)
      refine ⟨fun b4 => ?_, fun b4 => ?_⟩ <;> rw [b4]
      · ((repeat ((conv => whnf); first | refine brT ?_ | refine brF ?_)); conv => whnf)
        refine ⟨_, isParentOf_spec ps _ _ _, ?_⟩
        ((repeat ((conv => whnf); first | refine brT ?_ | refine brF ?_)); conv => whnf); refine fin ?_; simp [personOk, hf, h, hs, c1, c2, b3, b4]
      · ((repeat ((conv => whnf); first | refine brT ?_ | refine brF ?_)); conv => whnf); refine fin ?_; simp [personOk, hf, b4]
end Go.Proofs.YtbiagkccgijdlaaGreat

