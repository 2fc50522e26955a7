/- Contracts of functions of the program and of its model, told over readings. -/
import Derived.Test.YtfdjeflnjciloaaBR3
namespace Go.Proofs.Ytfdjeflnjciloaa
open Go.Lg
set_option maxHeartbeats 1600000
set_option maxRecDepth 10000
set_option linter.unusedVariables false
set_option linter.unusedSimpArgs false

/-! ### Bits -/
theorem u64_wrap {n : Nat} (h : n < 2 ^ 64) : IntKind.u64.wrap (n : Int) = n := by
  unfold IntKind.wrap
  simp [IntKind.signed, IntKind.bits]
  omega
theorem ofInt_nat (n : Nat) : BitVec.ofInt 64 (n : Int) = BitVec.ofNat 64 n := by simp
theorem orI_nat {a b : Nat} (ha : a < 2 ^ 64) (hb : b < 2 ^ 64) : Go.Lg.orI .u64 (a : Int) (b : Int) = ((a ||| b : Nat) : Int) := by
  unfold Go.Lg.orI
  show IntKind.u64.wrap ((BitVec.ofInt 64 (a : Int) ||| BitVec.ofInt 64 (b : Int)).toNat) = _
  rw [ofInt_nat, ofInt_nat, BitVec.toNat_or, BitVec.toNat_ofNat, BitVec.toNat_ofNat, Nat.mod_eq_of_lt ha, Nat.mod_eq_of_lt hb]
  exact u64_wrap (Nat.or_lt_two_pow ha hb)
theorem andI_nat {a b : Nat} (ha : a < 2 ^ 64) (hb : b < 2 ^ 64) : andI .u64 (a : Int) (b : Int) = ((a &&& b : Nat) : Int) := by
  unfold andI
  show IntKind.u64.wrap ((BitVec.ofInt 64 (a : Int) &&& BitVec.ofInt 64 (b : Int)).toNat) = _
  rw [ofInt_nat, ofInt_nat, BitVec.toNat_and, BitVec.toNat_ofNat, BitVec.toNat_ofNat, Nat.mod_eq_of_lt ha, Nat.mod_eq_of_lt hb]
  exact u64_wrap (Nat.and_lt_two_pow a hb)
/-- a but not b, in 64 bits -/
def lessN (a b : Nat) : Nat := (BitVec.ofNat 64 a &&& ~~~BitVec.ofNat 64 b).toNat
theorem lessN_lt (a b : Nat) : lessN a b < 2 ^ 64 := (BitVec.ofNat 64 a &&& ~~~BitVec.ofNat 64 b).isLt
theorem andNotI_nat (a b : Nat) : andNotI .u64 (a : Int) (b : Int) = (lessN a b : Int) := by
  unfold andNotI
  show IntKind.u64.wrap ((BitVec.ofInt 64 (a : Int) &&& ~~~BitVec.ofInt 64 (b : Int)).toNat) = _
  rw [ofInt_nat, ofInt_nat]
  exact u64_wrap (lessN_lt a b)
theorem lessN_bit {a b i : Nat} (ha : a < 2 ^ 64) (hi : i < 64) : (lessN a b).testBit i = (a.testBit i && !b.testBit i) := by
  unfold lessN
  rw [BitVec.testBit_toNat, BitVec.getLsbD_and, BitVec.getLsbD_not, BitVec.getLsbD_ofNat, BitVec.getLsbD_ofNat]
  simp [hi]
theorem shlI_one {b : Int} (h0 : 0 ≤ b) (h1 : b < 64) : shlI .u64 1 b = ((2 ^ b.toNat : Nat) : Int) := by
  unfold shlI
  have hm : min b.toNat IntKind.u64.bits = b.toNat := by
    have : b.toNat < 64 := by omega
    simp [IntKind.bits]; omega
  rw [hm, Int.one_mul]
  have hlt : 2 ^ b.toNat < 2 ^ 64 := Nat.pow_lt_pow_right (by omega) (by omega)
  have := u64_wrap hlt
  rw [← this]
  simp

def uLV (s : Nat) : LV := .int .u64 (s : Int)
/-- The set of a row. -/
def setFrom : Nat → List Int → Nat
  | s, [] => s
  | s, b :: bs => setFrom (s ||| 2 ^ b.toNat) bs
def setN (row : List Int) : Nat := setFrom 0 row
def inSize (row : List Int) : Prop := ∀ b ∈ row, 0 ≤ b ∧ b < 40
theorem two_lt {b : Nat} (h : b < 64) : 2 ^ b < 2 ^ 64 := Nat.pow_lt_pow_right (by omega) h
theorem setFrom_lt : ∀ (row : List Int) (s : Nat), s < 2 ^ 64 → inSize row → setFrom s row < 2 ^ 64
  | [], s, h, _ => h
  | b :: bs, s, h, hr => by
    have := hr b (by simp)
    exact setFrom_lt bs _ (Nat.or_lt_two_pow h (two_lt (by omega))) fun x hx => hr x (by simp [hx])
theorem setFrom_bit : ∀ (row : List Int) (s i : Nat), inSize row → (setFrom s row).testBit i = (s.testBit i || decide ((i : Int) ∈ row))
  | [], s, i, _ => by simp [setFrom]
  | b :: bs, s, i, hr => by
    have hb := hr b (by simp)
    simp only [setFrom]
    rw [setFrom_bit bs _ i fun x hx => hr x (by simp [hx]), Nat.testBit_or, Nat.testBit_two_pow]
    have : (b.toNat = i) ↔ ((i : Int) = b) := by omega
    simp only [List.mem_cons, this, Bool.or_assoc, Bool.decide_or]
theorem setN_bit {row : List Int} (h : inSize row) (i : Nat) : (setN row).testBit i = decide ((i : Int) ∈ row) := by unfold setN; rw [setFrom_bit row 0 i h]; simp
theorem setN_lt {row : List Int} (h : inSize row) : setN row < 2 ^ 64 := setFrom_lt row 0 (by decide) h

/-- (numberSet).has -/
def hasN (s : Nat) (b : Int) : Bool := s.testBit b.toNat
theorem has_bits {s : Nat} {b : Int} (hs : s < 2 ^ 64) (h0 : 0 ≤ b) (h1 : b < 64) : notB (eqI (andI .u64 (s : Int) (shlI .u64 1 b)) 0) = hasN s b := by
  rw [shlI_one h0 h1, andI_nat hs (two_lt (by omega))]
  unfold hasN notB eqI
  have hx : s &&& 2 ^ b.toNat = if s.testBit b.toNat then 2 ^ b.toNat else 0 := by
    apply Nat.eq_of_testBit_eq
    intro i
    rw [Nat.testBit_and, Nat.testBit_two_pow]
    by_cases hi : b.toNat = i
    · subst hi
      cases h : s.testBit b.toNat <;> simp [Nat.testBit_two_pow]
    · cases h : s.testBit b.toNat <;> simp [hi, Nat.testBit_two_pow]
  rw [hx]
  have hp : 0 < 2 ^ b.toNat := Nat.two_pow_pos _
  cases s.testBit b.toNat
  · simp
  · simp only [if_true]
    rw [Bool.not_eq_true', beq_eq_false_iff_ne]
    omega
theorem has_spec (s : Nat) (b : Int) (hs : s < 2 ^ 64) (h0 : 0 ≤ b) (h1 : b < 64) : FSpec env.P 123 [uLV s, .int .i64 b] (.bool (hasN s b)) := by
  refine FSpec_of_code env_ok (fn := Try.f123) Try.func123 rfl Try.call123 _ _ ?_
  ((repeat ((conv => whnf); first | refine brT ?_ | refine brF ?_)); conv => whnf)
  refine ⟨h0, ?_⟩
  ((repeat ((conv => whnf); first | refine brT ?_ | refine brF ?_)); conv => whnf)
  refine fin ?_
  exact has_bits hs h0 h1

/-- (numberSet).add of a variable -/
theorem add_box (s : Nat) (b : Int) (hs : s < 2 ^ 64) (h0 : 0 ≤ b) (h1 : b < 64) : HSpec env.P 116 [.hp 0 0 [], .int .i64 b] [.box (uLV s)] (.tup []) [.box (uLV (s ||| 2 ^ b.toNat))] := by
  refine HSpec_of_code (E := env.x [] 1) env_ok.x (fn := Try.f116) Try.func116 rfl Try.call116 _ _ _ _ ?_
  ((repeat ((conv => whnf); first | refine brT ?_ | refine brF ?_)); conv => whnf)
  refine ⟨by kernel_rfl, ?_⟩
  ((repeat ((conv => whnf); first | refine brT ?_ | refine brF ?_)); conv => whnf)
  refine ⟨h0, ?_⟩
  ((repeat ((conv => whnf); first | refine brT ?_ | refine brF ?_)); conv => whnf)
  have e : LV.int .u64 (Go.Lg.orI .u64 (s : Int) (shlI .u64 1 b)) = uLV (s ||| 2 ^ b.toNat) := by rw [shlI_one h0 h1, orI_nat hs (two_lt (by omega))]; rfl
  exact ⟨[], rfl, rfl, .inl ⟨trivial, ⟨congrArg Blk.box e, trivial⟩, rfl, rfl⟩⟩

theorem setOf_spec (row : List Int) (hr : inSize row) (hm : row.length ≤ Go.maxLen) : FSpec env.P 171 [rowSl row] (uLV (setN row)) := by
  refine FSpec_of_code (E := env.x [116] 0) env_ok.x (fn := Try.f171) Try.func171 rfl Try.call171 _ _ ?_
  ((repeat ((conv => whnf); first | refine brT ?_ | refine brF ?_)); conv => whnf)
  intro _
  rw [List.length_map]
  ((repeat ((conv => whnf); first | refine brT ?_ | refine brF ?_)); conv => whnf)
  refine loop_rule (α := Nat) (fun k => [(8, .int .i64 (k : Int))]) (fun k => [.box (uLV (setFrom 0 (row.take k)))]) (fun k => row.length - k) (fun k => k ≤ row.length) 0 (Nat.zero_le _) ?_ ?_
  · refine ⟨?_, ⟨rfl, trivial⟩, rfl, rfl⟩
    ((repeat ((conv => whnf); refine ⟨rfl, ?_⟩)); trivial)
  rintro k hk
  ((repeat ((conv => whnf); first | refine brT ?_ | refine brF ?_)); conv => whnf)
  (refine ⟨fun h1 => ?_, fun h1 => ?_⟩ <;> rw [h1])
  · have hlt : k < row.length := by rw [ltI_t] at h1; omega
    have hb := hr row[k] (List.getElem_mem hlt)
    have e := step_i hlt hm
    have hs : setFrom 0 (row.take k) < 2 ^ 64 := setFrom_lt _ _ (by decide) fun x hx => hr x (List.mem_of_mem_take hx)
    have es : setFrom 0 (row.take (k + 1)) = setFrom 0 (row.take k) ||| 2 ^ row[k].toNat := by
      rw [List.take_succ_eq_append_getElem hlt]
      generalize row.take k = l
      generalize (0 : Nat) = z
      induction l generalizing z with
      | nil => rfl
      | cons y ys ih => simp only [List.cons_append, setFrom]; exact ih _
    ((repeat ((conv => whnf); first | refine brT ?_ | refine brF ?_)); conv => whnf)
    refine ⟨k, intLV row[k], rfl, by simp [hlt], rfl, ?_⟩
    ((repeat ((conv => whnf); first | refine brT ?_ | refine brF ?_)); conv => whnf)
    refine ⟨[0], _, _, _, _, add_box _ row[k] hs hb.1 (by omega), rfl, rfl, rfl, trivial, ?_⟩
    ((repeat ((conv => whnf); first | refine brT ?_ | refine brF ?_)); conv => whnf)
    refine round_end (k + 1) hlt (by omega) ⟨?_, ⟨congrArg (fun s => Blk.box (uLV s)) es.symm, trivial⟩, rfl, rfl⟩
    ((repeat ((conv => whnf); first | refine ⟨e, ?_⟩ | refine ⟨rfl, ?_⟩)); trivial)
  · have h3 : k = row.length := by rw [ltI_f] at h1; omega
    subst h3
    ((repeat ((conv => whnf); first | refine brT ?_ | refine brF ?_)); conv => whnf)
    exact ⟨rfl, by rw [List.take_length]; rfl, List.nodup_nil⟩
end Go.Proofs.Ytfdjeflnjciloaa
