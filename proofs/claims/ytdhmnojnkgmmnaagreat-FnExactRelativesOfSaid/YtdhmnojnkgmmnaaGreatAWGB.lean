/- Contracts of functions of the program and of its model, told over readings. -/
import Derived.Test.YtdhmnojnkgmmnaaGreatAWGA
import Derived.Test.YtdhmnojnkgmmnaaGreatALgWS
import Derived.Test.YtdhmnojnkgmmnaaGreatALgMF
namespace Go.Proofs.YtdhmnojnkgmmnaaGreat
open Go.Lg
set_option maxHeartbeats 1600000
set_option maxRecDepth 10000
set_option linter.unusedVariables false
set_option linter.unusedSimpArgs false

/-! ### Bits -/
theorem u64_wrap {n : Nat} (h : n < 2 ^ 64) : IntKind.u64.wrap (n : Int) = n := by
  unfold IntKind.wrap
  simp [IntKind.signed, IntKind.bits]
  omega
theorem ofInt_nat (n : Nat) : BitVec.ofInt 64 (n : Int) = BitVec.ofNat 64 n := by simp
theorem orI_nat {a b : Nat} (ha : a < 2 ^ 64) (hb : b < 2 ^ 64) : Go.Lg.orI .u64 (a : Int) (b : Int) = ((a ||| b : Nat) : Int) := by
  unfold Go.Lg.orI
  show IntKind.u64.wrap ((BitVec.ofInt 64 (a : Int) ||| BitVec.ofInt 64 (b : Int)).toNat) = _
  rw [ofInt_nat, ofInt_nat, BitVec.toNat_or, BitVec.toNat_ofNat, BitVec.toNat_ofNat, Nat.mod_eq_of_lt ha, Nat.mod_eq_of_lt hb]
  exact u64_wrap (Nat.or_lt_two_pow ha hb)
theorem andI_nat {a b : Nat} (ha : a < 2 ^ 64) (hb : b < 2 ^ 64) : andI .u64 (a : Int) (b : Int) = ((a &&& b : Nat) : Int) := by
  unfold andI
  show IntKind.u64.wrap ((BitVec.ofInt 64 (a : Int) &&& BitVec.ofInt 64 (b : Int)).toNat) = _
  rw [ofInt_nat, ofInt_nat, BitVec.toNat_and, BitVec.toNat_ofNat, BitVec.toNat_ofNat, Nat.mod_eq_of_lt ha, Nat.mod_eq_of_lt hb]
  exact u64_wrap (Nat.and_lt_two_pow a hb)
theorem shlI_one {b : Int} (h0 : 0 ≤ b) (h1 : b < 64) : shlI .u64 1 b = ((2 ^ b.toNat : Nat) : Int) := by
  unfold shlI
  have hm : min b.toNat IntKind.u64.bits = b.toNat := by
    have : b.toNat < 64 := by omega
    simp [IntKind.bits]; omega
  rw [hm, Int.one_mul]
  have hlt : 2 ^ b.toNat < 2 ^ 64 := Nat.pow_lt_pow_right (by omega) (by omega)
  have := u64_wrap hlt
  rw [← this]
  simp

def uLV (s : Nat) : LV := .int .u64 (s : Int)
/-- The set of a row. -/
def setFrom : Nat → List Int → Nat
  | s, [] => s
  | s, b :: bs => setFrom (s ||| 2 ^ b.toNat) bs
def setN (row : List Int) : Nat := setFrom 0 row
def inSize (row : List Int) : Prop := ∀ b ∈ row, 0 ≤ b ∧ b < 40
theorem two_lt {b : Nat} (h : b < 64) : 2 ^ b < 2 ^ 64 := Nat.pow_lt_pow_right (by omega) h
theorem setFrom_lt : ∀ (row : List Int) (s : Nat), s < 2 ^ 64 → inSize row → setFrom s row < 2 ^ 64
  | [], s, h, _ => h
  | b :: bs, s, h, hr => by
    have := hr b (by simp)
    exact setFrom_lt bs _ (Nat.or_lt_two_pow h (two_lt (by omega))) fun x hx => hr x (by simp [hx])
theorem setFrom_bit : ∀ (row : List Int) (s i : Nat), inSize row → (setFrom s row).testBit i = (s.testBit i || decide ((i : Int) ∈ row))
  | [], s, i, _ => by simp [setFrom]
  | b :: bs, s, i, hr => by
    have hb := hr b (by simp)
    simp only [setFrom]
    rw [setFrom_bit bs _ i fun x hx => hr x (by simp [hx]), Nat.testBit_or, Nat.testBit_two_pow]
    have : (b.toNat = i) ↔ ((i : Int) = b) := by omega
    simp only [List.mem_cons, this, Bool.or_assoc, Bool.decide_or]
theorem setN_bit {row : List Int} (h : inSize row) (i : Nat) : (setN row).testBit i = decide ((i : Int) ∈ row) := by unfold setN; rw [setFrom_bit row 0 i h]; simp
/-- (numberSet).has -/
def hasN (s : Nat) (b : Int) : Bool := s.testBit b.toNat
theorem has_bits {s : Nat} {b : Int} (hs : s < 2 ^ 64) (h0 : 0 ≤ b) (h1 : b < 64) : notB (eqI (andI .u64 (s : Int) (shlI .u64 1 b)) 0) = hasN s b := by
  rw [shlI_one h0 h1, andI_nat hs (two_lt (by omega))]
  unfold hasN notB eqI
  have hx : s &&& 2 ^ b.toNat = if s.testBit b.toNat then 2 ^ b.toNat else 0 := by
    apply Nat.eq_of_testBit_eq
    intro i
    rw [Nat.testBit_and, Nat.testBit_two_pow]
    by_cases hi : b.toNat = i
    · subst hi
      cases h : s.testBit b.toNat <;> simp [Nat.testBit_two_pow]
    · cases h : s.testBit b.toNat <;> simp [hi, Nat.testBit_two_pow]
  rw [hx]
  have hp : 0 < 2 ^ b.toNat := Nat.two_pow_pos _
  cases s.testBit b.toNat
  · simp
  · simp only [if_true]
    rw [Bool.not_eq_true', beq_eq_false_iff_ne]
    omega
theorem has_spec (s : Nat) (b : Int) (hs : s < 2 ^ 64) (h0 : 0 ≤ b) (h1 : b < 64) : FSpec env.P 158 [uLV s, .int .i64 b] (.bool (hasN s b)) := by
  refine FSpec_of_code env_ok (fn := Tryz.f158) Tryz.func158 rfl Tryz.call158 _ _ ?_
  ((repeat ((conv => whnf); first | refine brT ?_ | refine brF ?_)); conv => whnf)
  refine ⟨h0, ?_⟩
  ((repeat ((conv => whnf); first | refine brT ?_ | refine brF ?_)); conv => whnf)
  refine fin ?_
  exact has_bits hs h0 h1

/-- (numberSet).add of a variable -/
theorem add_box (s : Nat) (b : Int) (hs : s < 2 ^ 64) (h0 : 0 ≤ b) (h1 : b < 64) : HSpec env.P 121 [.hp 0 0 [], .int .i64 b] [.box (uLV s)] (.tup []) [.box (uLV (s ||| 2 ^ b.toNat))] := by
  refine HSpec_of_code (E := env.x [] 1) env_ok.x (fn := Tryz.f121) Tryz.func121 rfl Tryz.call121 _ _ _ _ ?_
  ((repeat ((conv => whnf); first | refine brT ?_ | refine brF ?_)); conv => whnf)
  refine ⟨true, by kernel_rfl, ?_⟩
  ((repeat ((conv => whnf); first | refine brT ?_ | refine brF ?_)); conv => whnf)
  refine ⟨h0, ?_⟩
  ((repeat ((conv => whnf); first | refine brT ?_ | refine brF ?_)); conv => whnf)
  have e : LV.int .u64 (Go.Lg.orI .u64 (s : Int) (shlI .u64 1 b)) = uLV (s ||| 2 ^ b.toNat) := by rw [shlI_one h0 h1, orI_nat hs (two_lt (by omega))]; rfl
  exact ⟨[], rfl, rfl, .inl ⟨trivial, ⟨congrArg Blk.box e, trivial⟩, rfl, rfl⟩⟩

theorem setOf_spec (row : List Int) (hr : inSize row) (hm : row.length ≤ Go.maxLen) : FSpec env.P 160 [rowSl row] (uLV (setN row)) := by
  refine FSpec_of_code (E := env.x [121] 0) env_ok.x (fn := Tryz.f160) Tryz.func160 rfl Tryz.call160 _ _ ?_
  ((repeat ((conv => whnf); first | refine brT ?_ | refine brF ?_)); conv => whnf)
  intro _
  rw [List.length_map]
  ((repeat ((conv => whnf); first | refine brT ?_ | refine brF ?_)); conv => whnf)
  refine loop_rule (α := Nat) (fun k => [(8, .int .i64 (k : Int))]) (fun k => [.box (uLV (setFrom 0 (row.take k)))]) (fun k => row.length - k) (fun k => k ≤ row.length) 0 (Nat.zero_le _) ?_ ?_
  · refine ⟨?_, ⟨rfl, trivial⟩, rfl, rfl⟩
    ((repeat ((conv => whnf); refine ⟨rfl, ?_⟩)); trivial)
  rintro k hk
  ((repeat ((conv => whnf); first | refine brT ?_ | refine brF ?_)); conv => whnf)
  (refine ⟨fun h1 => ?_, fun h1 => ?_⟩ <;> rw [h1])
  · have hlt : k < row.length := by rw [ltI_t] at h1; omega
    have hb := hr row[k] (List.getElem_mem hlt)
    have e := step_i hlt hm
    have hs : setFrom 0 (row.take k) < 2 ^ 64 := setFrom_lt _ _ (by decide) fun x hx => hr x (List.mem_of_mem_take hx)
    have es : setFrom 0 (row.take (k + 1)) = setFrom 0 (row.take k) ||| 2 ^ row[k].toNat := by
      rw [List.take_succ_eq_append_getElem hlt]
      generalize row.take k = l
      generalize (0 : Nat) = z
      induction l generalizing z with
      | nil => rfl
      | cons y ys ih => simp only [List.cons_append, setFrom]; exact ih _
    ((repeat ((conv => whnf); first | refine brT ?_ | refine brF ?_)); conv => whnf)
    refine ⟨k, intLV row[k], rfl, by simp [hlt], rfl, ?_⟩
    ((repeat ((conv => whnf); first | refine brT ?_ | refine brF ?_)); conv => whnf)
    refine ⟨[0], _, _, _, _, add_box _ row[k] hs hb.1 (by omega), rfl, rfl, rfl, trivial, ?_⟩
    ((repeat ((conv => whnf); first | refine brT ?_ | refine brF ?_)); conv => whnf)
    refine round_end (k + 1) hlt (by omega) ⟨?_, ⟨congrArg (fun s => Blk.box (uLV s)) es.symm, trivial⟩, rfl, rfl⟩
    ((repeat ((conv => whnf); first | refine ⟨e, ?_⟩ | refine ⟨rfl, ?_⟩)); trivial)
  · have h3 : k = row.length := by rw [ltI_f] at h1; omega
    subst h3
    ((repeat ((conv => whnf); first | refine brT ?_ | refine brF ?_)); conv => whnf)
    exact ⟨rfl, by rw [List.take_length]; rfl, List.nodup_nil⟩
end Go.Proofs.YtdhmnojnkgmmnaaGreat


namespace Go.Proofs.YtdhmnojnkgmmnaaGreat
open Go.Lg
set_option maxHeartbeats 1600000
set_option maxRecDepth 10000
set_option linter.unusedVariables false
set_option linter.unusedSimpArgs false

def rowFrom (size : Int) : Int → List Int → Bool
  | _, [] => true
  | last, b :: bs => match leI b last with | true => false | false => match leI size b with | true => false | false => rowFrom size b bs
def rowsOk (n : Int) (rows : List (List Int)) : Bool := rows.all fun r => rowFrom n (-1) r
def relOk (n : Int) (rows : List (List Int)) : Bool := leI 0 n && leI n 40 && eqI rows.length n && rowsOk n rows
theorem isSize_spec (n : Int) : FSpec env.P 166 [.int .i64 n] (.bool (leI 0 n && leI n 40)) := by
  refine FSpec_of_code env_ok (fn := Tryz.f166) Tryz.func166 rfl Tryz.call166 _ _ ?_
  ((repeat' (((repeat ((conv => whnf); first | refine brT ?_ | refine brF ?_)); conv => whnf); (refine And.intro ?_ ?_ <;> (intro h; rw [h]; revert h; intro _)))); all_goals ((repeat ((conv => whnf); first | refine brT ?_ | refine brF ?_)); conv => whnf))
  all_goals (refine fin ?_; simp_all)

theorem isRow_spec (r : List Int) (size : Int) : FSpec env.P 167 [rowSl r, .int .i64 size] (.bool (rowFrom size (-1) r)) := by
  refine FSpec_of_code env_ok (fn := Tryz.f167) Tryz.func167 rfl Tryz.call167 _ _ ?_
  ((repeat ((conv => whnf); first | refine brT ?_ | refine brF ?_)); conv => whnf)
  intro hm
  rw [List.length_map] at hm
  ((repeat ((conv => whnf); first | refine brT ?_ | refine brF ?_)); conv => whnf)
  refine loop_rule (α := Nat × Int) (fun x => [(10, .int .i64 (x.1 : Int)), (5, .int .i64 x.2)]) (fun _ => []) (fun x => r.length - x.1) (fun x => x.1 ≤ r.length ∧ rowFrom size (-1) r = rowFrom size x.2 (r.drop x.1)) (0, -1) ⟨Nat.zero_le _, rfl⟩ ?_ ?_
  · refine ⟨?_, trivial, rfl, rfl⟩
    ((repeat ((conv => whnf); refine ⟨rfl, ?_⟩)); trivial)
  rintro ⟨k, l⟩ ⟨hk, he⟩
  ((repeat ((conv => whnf); first | refine brT ?_ | refine brF ?_)); conv => whnf)
  (refine ⟨fun h1 => ?_, fun h1 => ?_⟩ <;> rw [h1])
  · have hlt : k < r.length := by rw [ltI_t] at h1; simp at h1; omega
    rw [List.drop_eq_getElem_cons hlt] at he
    simp only [rowFrom] at he
    have e := step_i hlt hm
    ((repeat ((conv => whnf); first | refine brT ?_ | refine brF ?_)); conv => whnf)
    refine ⟨k, intLV r[k], rfl, by simp [hlt], rfl, ?_⟩
    ((repeat ((conv => whnf); first | refine brT ?_ | refine brF ?_)); conv => whnf)
    (refine ⟨fun h2 => ?_, fun h2 => ?_⟩ <;> rw [h2])
    · rw [h2] at he
      ((repeat ((conv => whnf); first | refine brT ?_ | refine brF ?_)); conv => whnf)
      refine fin ?_
      rw [he]
    rw [h2] at he
    ((repeat ((conv => whnf); first | refine brT ?_ | refine brF ?_)); conv => whnf)
    (refine ⟨fun h3 => ?_, fun h3 => ?_⟩ <;> rw [h3])
    · rw [h3] at he
      ((repeat ((conv => whnf); first | refine brT ?_ | refine brF ?_)); conv => whnf)
      refine fin ?_
      rw [he]
    rw [h3] at he
    ((repeat ((conv => whnf); first | refine brT ?_ | refine brF ?_)); conv => whnf)
    refine round_end (k + 1, r[k]) ⟨hlt, he⟩ (by simp only; omega) ⟨?_, trivial, rfl, rfl⟩
    ((repeat ((conv => whnf); first | refine ⟨e, ?_⟩ | refine ⟨rfl, ?_⟩)); trivial)
  · have h3 : k = r.length := by rw [ltI_f] at h1; simp at h1; omega
    subst h3
    ((repeat ((conv => whnf); first | refine brT ?_ | refine brF ?_)); conv => whnf)
    refine fin ?_
    rw [he, List.drop_length]; rfl

theorem isRelation_impl (n : Int) (rows : List (List Int)) : FSpec env.P 159 [relLV n rows] (.bool (relOk n rows)) := by
  refine FSpec_of_code env_ok (fn := Tryz.f159) Tryz.func159 rfl Tryz.call159 _ _ ?_
  ((repeat ((conv => whnf); first | refine brT ?_ | refine brF ?_)); conv => whnf)
  refine ⟨_, isSize_spec n, ?_⟩
  ((repeat ((conv => whnf); first | refine brT ?_ | refine brF ?_)); conv => whnf)
  (refine ⟨fun h => ?_, fun h => ?_⟩ <;> rw [h])
  · rw [notB_t] at h
    ((repeat ((conv => whnf); first | refine brT ?_ | refine brF ?_)); conv => whnf)
    refine fin ?_
    unfold relOk; rw [h]; rfl
  rw [notB_f] at h
  ((repeat ((conv => whnf); first | refine brT ?_ | refine brF ?_)); conv => whnf)
  intro hm
  rw [List.length_map] at hm
  rw [List.length_map]
  ((repeat ((conv => whnf); first | refine brT ?_ | refine brF ?_)); conv => whnf)
  (refine ⟨fun h0 => ?_, fun h0 => ?_⟩ <;> rw [h0])
  · ((repeat ((conv => whnf); first | refine brT ?_ | refine brF ?_)); conv => whnf)
    refine fin ?_
    rw [notB_t] at h0
    unfold relOk; rw [h, h0]; rfl
  rw [notB_f] at h0
  ((repeat ((conv => whnf); first | refine brT ?_ | refine brF ?_)); conv => whnf)
  intro _
  rw [List.length_map]
  ((repeat ((conv => whnf); first | refine brT ?_ | refine brF ?_)); conv => whnf)
  refine loop_rule (α := Nat) (fun k => [(20, .int .i64 (k : Int))]) (fun _ => [.box (relLV n rows)]) (fun k => rows.length - k) (fun k => k ≤ rows.length ∧ relOk n rows = rowsOk n (rows.drop k)) 0 ⟨Nat.zero_le _, by unfold relOk; rw [h, h0]; rfl⟩ ?_ ?_
  · refine ⟨?_, ⟨rfl, trivial⟩, rfl, rfl⟩
    ((repeat ((conv => whnf); refine ⟨rfl, ?_⟩)); trivial)
  rintro k ⟨hk, he⟩
  ((repeat ((conv => whnf); first | refine brT ?_ | refine brF ?_)); conv => whnf)
  (refine ⟨fun h1 => ?_, fun h1 => ?_⟩ <;> rw [h1])
  · have hlt : k < rows.length := by rw [ltI_t] at h1; omega
    rw [List.drop_eq_getElem_cons hlt] at he
    have e := step_i hlt hm
    ((repeat ((conv => whnf); first | refine brT ?_ | refine brF ?_)); conv => whnf)
    refine ⟨k, rowSl rows[k], rfl, by simp [hlt], rfl, ?_⟩
    ((repeat ((conv => whnf); first | refine brT ?_ | refine brF ?_)); conv => whnf)
    refine ⟨_, isRow_spec rows[k] n, ?_⟩
    ((repeat ((conv => whnf); first | refine brT ?_ | refine brF ?_)); conv => whnf)
    (refine ⟨fun h2 => ?_, fun h2 => ?_⟩ <;> rw [h2])
    · rw [notB_t] at h2
      ((repeat ((conv => whnf); first | refine brT ?_ | refine brF ?_)); conv => whnf)
      refine fin ?_
      rw [he]; unfold rowsOk; rw [List.all_cons, h2]; rfl
    rw [notB_f] at h2
    ((repeat ((conv => whnf); first | refine brT ?_ | refine brF ?_)); conv => whnf)
    refine round_end (k + 1) ⟨hlt, by rw [he]; unfold rowsOk; rw [List.all_cons, h2]; rfl⟩ (by omega) ⟨?_, ⟨rfl, trivial⟩, rfl, rfl⟩
    ((repeat ((conv => whnf); first | refine ⟨e, ?_⟩ | refine ⟨rfl, ?_⟩)); trivial)
  · have h3 : k = rows.length := by rw [ltI_f] at h1; omega
    subst h3
    ((repeat ((conv => whnf); first | refine brT ?_ | refine brF ?_)); conv => whnf)
    refine fin ?_
    rw [he, List.drop_length]; rfl

end Go.Proofs.YtdhmnojnkgmmnaaGreat

namespace Go.Proofs.YtdhmnojnkgmmnaaGreat
open Go.Lg
set_option maxHeartbeats 1600000
set_option maxRecDepth 10000
set_option linter.unusedVariables false
set_option linter.unusedSimpArgs false

structure RowsLen (rows : List (List Int)) : Prop where
  n : rows.length ≤ Go.maxLen
  each : ∀ r ∈ rows, r.length ≤ Go.maxLen

theorem szN_ok {l : Int} {n : Nat} (h0 : 0 ≤ l) (h1 : l ≤ 1048576) (hn : n ≤ Go.maxLen) (h : 0 ≤ szN l n) : szN l n = l - n ∧ (n : Int) ≤ l := by
  unfold szN at h ⊢
  rw [wrap_sub h0 h1 hn] at h ⊢
  split at h
  · omega
  · exact ⟨rfl, by omega⟩
end Go.Proofs.YtdhmnojnkgmmnaaGreat

namespace Go.Proofs.YtdhmnojnkgmmnaaGreat
open Go.Lg
set_option maxHeartbeats 1600000
set_option maxRecDepth 10000
set_option linter.unusedVariables false
set_option linter.unusedSimpArgs false

theorem rowFrom_cons {n last b : Int} {bs : List Int} (h : rowFrom n last (b :: bs) = true) : last < b ∧ b < n ∧ rowFrom n b bs = true := by
  simp only [rowFrom] at h
  split at h
  · cases h
  · rename_i h1
    split at h
    · cases h
    · rename_i h2
      rw [leI_f] at h1 h2
      exact ⟨h1, h2, h⟩
theorem rowFrom_mem : ∀ {r : List Int} {n last : Int}, rowFrom n last r = true → ∀ b ∈ r, last < b ∧ b < n
  | [], _, _, _, b, hb => by simp at hb
  | x :: xs, n, last, h, b, hb => by
    obtain ⟨h1, h2, h3⟩ := rowFrom_cons h
    rcases List.mem_cons.1 hb with rfl | hb
    · exact ⟨h1, h2⟩
    · have := rowFrom_mem h3 b hb; omega
theorem rowFrom_len : ∀ {r : List Int} {n last : Int}, rowFrom n last r = true → (r.length : Int) + last ≤ n - 1 ∨ r = []
  | [], _, _, _ => .inr rfl
  | x :: xs, n, last, h => by
    obtain ⟨h1, h2, h3⟩ := rowFrom_cons h
    left
    rcases rowFrom_len h3 with h4 | rfl
    · simp only [List.length_cons]; omega
    · simp; omega
structure RelIn (n : Int) (rows : List (List Int)) : Prop where
  lo : 0 ≤ n
  hi : n ≤ 40
  len : (rows.length : Int) = n
  row : ∀ r ∈ rows, rowFrom n (-1) r = true
theorem relIn_of {n : Int} {rows : List (List Int)} (h : relOk n rows = true) : RelIn n rows := by
  unfold relOk rowsOk at h
  simp only [Bool.and_eq_true, leI_t, eqI_t, List.all_eq_true] at h
  exact ⟨h.1.1.1, h.1.1.2, h.1.2, h.2⟩
theorem relOk_of {n : Int} {rows : List (List Int)} (h : RelIn n rows) : relOk n rows = true := by
  unfold relOk rowsOk
  simp only [Bool.and_eq_true, leI_t, eqI_t, List.all_eq_true]
  exact ⟨⟨⟨h.lo, h.hi⟩, h.len⟩, h.row⟩
theorem RelIn.mem {n : Int} {rows : List (List Int)} (h : RelIn n rows) {r : List Int} (hr : r ∈ rows) {b : Int} (hb : b ∈ r) : 0 ≤ b ∧ b < n ∧ b < 40 := by
  have := rowFrom_mem (h.row r hr) b hb
  have := h.hi
  omega
theorem RelIn.rlen {n : Int} {rows : List (List Int)} (h : RelIn n rows) {r : List Int} (hr : r ∈ rows) : r.length ≤ 40 := by
  have h1 := h.hi
  rcases rowFrom_len (h.row r hr) with h2 | rfl
  · omega
  · simp

/-! ### Pairs -/
structure Pr where
  a : Int
  b : Int
def Pr.lv (p : Pr) : LV := .st [.int .i64 p.a, .int .i64 p.b]
end Go.Proofs.YtdhmnojnkgmmnaaGreat


namespace Go.Proofs.YtdhmnojnkgmmnaaGreat
open Go.Lg
set_option maxHeartbeats 1600000
set_option maxRecDepth 10000
set_option linter.unusedVariables false
set_option linter.unusedSimpArgs false

/-- The numbers of a set, below k. -/
def listTo (s : Nat) (k : Nat) : List Int := List.map (fun i : Nat => (i : Int)) (List.filter (fun i : Nat => s.testBit i) (List.range k))
def listN (s : Nat) : List Int := listTo s 40
theorem listTo_len (s k : Nat) : (listTo s k).length ≤ k := by
  unfold listTo
  rw [List.length_map]
  exact Nat.le_trans (List.length_filter_le _ _) (by simp)
theorem listTo_succ (s k : Nat) : listTo s (k + 1) = listTo s k ++ (match hasN s (k : Int) with | true => [(k : Int)] | false => []) := by
  unfold listTo hasN
  rw [List.range_succ, List.filter_append, List.map_append]
  congr 1
  simp only [List.filter_cons, List.filter_nil, Int.toNat_natCast]
  cases s.testBit k <;> rfl

theorem list_h (s : Nat) (hs : s < 2 ^ 64) : HSpec env.P 120 [uLV s] [] (.hs 0 ((listN s).map intLV).length) [.arr 3 1 ((listN s).map intLV)] := by
  refine HSpec_of_code (E := env.x [] 0) env_ok.x (fn := Tryz.f120) Tryz.func120 rfl Tryz.call120 _ _ _ _ ?_
  ((repeat ((conv => whnf); first | refine brT ?_ | refine brF ?_)); conv => whnf)
  refine loop_ruleR (α := Nat) [.nil 3 1] (fun k => [(5, .int .i64 (k : Int)), (3, .hs 0 ((listTo s k).map intLV).length)]) (fun k => [.arr 3 1 ((listTo s k).map intLV)])
    (fun k => 40 - k) (fun k => k ≤ 40) 0 (Nat.zero_le _) ?_ ?_
  · refine ⟨?_, ⟨rfl, rfl, trivial⟩, rfl⟩
    ((repeat ((conv => whnf); refine ⟨rfl, rfl, ?_⟩)); trivial)
  intro k hk
  ((repeat ((conv => whnf); first | refine brT ?_ | refine brF ?_)); conv => whnf)
  (refine ⟨fun h1 => ?_, fun h1 => ?_⟩ <;> rw [h1])
  · have hlt : k < 40 := by rw [ltI_t] at h1; omega
    have hsu := listTo_succ s k
    have hl := listTo_len s k
    have hl1 := listTo_len s (k + 1)
    have e : LV.int .i64 (IntKind.i64.wrap ((k : Int) + 1)) = LV.int .i64 ((k + 1 : Nat) : Int) := step_i (n := 40) hlt (by decide)
    ((repeat ((conv => whnf); first | refine brT ?_ | refine brF ?_)); conv => whnf)
    refine ⟨_, has_spec s k hs (by omega) (by omega), ?_⟩
    ((repeat ((conv => whnf); first | refine brT ?_ | refine brF ?_)); conv => whnf)
    (refine ⟨fun h2 => ?_, fun h2 => ?_⟩ <;> rw [h2])
    · rw [h2] at hsu
      have e2 : ((listTo s k).map intLV ++ [LV.int .i64 (k : Int)]) = (listTo s (k + 1)).map intLV := by rw [hsu, List.map_append]; rfl
      have e3 : LV.hs 0 ((listTo s k).map intLV ++ [LV.int .i64 (k : Int)]).length = LV.hs 0 ((listTo s (k + 1)).map intLV).length := by rw [e2]
      ((repeat ((conv => whnf); first | refine brT ?_ | refine brF ?_)); conv => whnf)
      refine ⟨rfl, rfl, by rw [e2]; unfold Go.maxLen; simp; omega, by rw [e2]; simp; omega, ?_⟩
      ((repeat ((conv => whnf); first | refine brT ?_ | refine brF ?_)); conv => whnf)
      refine round_endR [.old 2] (k + 1) hlt (by omega) ⟨?_, ⟨rfl, congrArg (Blk.arr 3 1) e2, trivial⟩, rfl⟩
      repeat ((conv => whnf); first | refine ⟨rfl, e, ?_⟩ | refine ⟨rfl, e3, ?_⟩ | refine ⟨rfl, rfl, ?_⟩)
      trivial
    · rw [h2, List.append_nil] at hsu
      have e3 : LV.hs 0 ((listTo s k).map intLV).length = LV.hs 0 ((listTo s (k + 1)).map intLV).length := by rw [hsu]
      ((repeat ((conv => whnf); first | refine brT ?_ | refine brF ?_)); conv => whnf)
      refine round_endR [.old 0] (k + 1) hlt (by omega) ⟨?_, ⟨rfl, congrArg (Blk.arr 3 1) (by rw [hsu]), trivial⟩, rfl⟩
      repeat ((conv => whnf); first | refine ⟨rfl, e, ?_⟩ | refine ⟨rfl, e3, ?_⟩ | refine ⟨rfl, rfl, ?_⟩)
      trivial
  · have h3 : k = 40 := by rw [ltI_f] at h1; omega
    subst h3
    ((repeat ((conv => whnf); first | refine brT ?_ | refine brF ?_)); conv => whnf)
    exact ⟨[.hs 0 ((listN s).map intLV).length], rfl, rfl, .inl ⟨⟨rfl, trivial⟩, ⟨rfl, trivial⟩, rfl, rfl⟩⟩

theorem listOf_h (s : Nat) (hs : s < 2 ^ 64) : HSpec env.P 119 [uLV s] [] (.hs 0 ((listN s).map intLV).length) [.arr 3 1 ((listN s).map intLV)] := by
  refine HSpec_of_code (E := env.x [120] 0) env_ok.x (fn := Tryz.f119) Tryz.func119 rfl Tryz.call119 _ _ _ _ ?_
  ((repeat ((conv => whnf); first | refine brT ?_ | refine brF ?_)); conv => whnf)
  refine ⟨[], _, _, _, _, list_h s hs, rfl, rfl, rfl, trivial, ?_⟩
  ((repeat ((conv => whnf); first | refine brT ?_ | refine brF ?_)); conv => whnf)
  exact ⟨[.hs 0 ((listN s).map intLV).length], rfl, rfl, .inl ⟨⟨rfl, trivial⟩, ⟨rfl, trivial⟩, rfl, rfl⟩⟩

/-- mapEach of sets of rows -/
theorem mapSets_h (rows : List (List Int)) (hr : ∀ r ∈ rows, inSize r ∧ r.length ≤ Go.maxLen) (hb : 8 * rows.length ≤ 281474976710656) :
    HSpec env.P 124 [.sl (rows.map rowSl), .clos 160 []] [] (.hs 0 (rows.map fun r => uLV (setN r)).length) [.arr 170 1 (rows.map fun r => uLV (setN r))] := by
  refine HSpec_of_code (E := env.x [] 0) env_ok.x (fn := Tryz.f124) Tryz.func124 rfl Tryz.call124 _ _ _ _ ?_
  ((repeat ((conv => whnf); first | refine brT ?_ | refine brF ?_)); conv => whnf)
  intro hp
  have hp' : rows.length ≤ Go.maxLen := by simpa using hp
  ((repeat ((conv => whnf); first | refine brT ?_ | refine brF ?_)); conv => whnf)
  refine ⟨rows.length, by simp, by simp, hb, hp', rfl, by decide, ?_⟩
  ((repeat ((conv => whnf); first | refine brT ?_ | refine brF ?_)); conv => whnf)
  intro _
  ((repeat ((conv => whnf); first | refine brT ?_ | refine brF ?_)); conv => whnf)
  refine loop_rule (α := Nat) (fun k => [(13, .int .i64 (k : Int))]) (fun k => [.arr 170 1 (fillLV (fun r => uLV (setN r)) (uLV 0) rows k)]) (fun k => rows.length - k) (fun k => k ≤ rows.length) 0 (Nat.zero_le _) ?_ ?_
  · refine ⟨?_, ⟨by simp [fillLV, uLV], trivial⟩, rfl, rfl⟩
    ((repeat ((conv => whnf); refine ⟨rfl, ?_⟩)); trivial)
  rintro k hk
  ((repeat ((conv => whnf); first | refine brT ?_ | refine brF ?_)); conv => whnf)
  (refine ⟨fun h1 => ?_, fun h1 => ?_⟩ <;> rw [h1])
  · have hlt : k < rows.length := by rw [ltI_t] at h1; simp at h1; omega
    have hrk := hr rows[k] (List.getElem_mem hlt)
    ((repeat ((conv => whnf); first | refine brT ?_ | refine brF ?_)); conv => whnf)
    refine ⟨k, rowSl rows[k], rfl, by simp [hlt], rfl, ?_⟩
    ((repeat ((conv => whnf); first | refine brT ?_ | refine brF ?_)); conv => whnf)
    refine ⟨_, setOf_spec rows[k] hrk.1 hrk.2, ?_⟩
    ((repeat ((conv => whnf); first | refine brT ?_ | refine brF ?_)); conv => whnf)
    refine ⟨(fill_len hk).symm, rfl, k, rfl, by rw [fill_len hk]; exact hlt, ?_⟩
    ((repeat ((conv => whnf); first | refine brT ?_ | refine brF ?_)); conv => whnf)
    refine ⟨(fill_len hk).symm, k, [], uLV 0, rfl, by simp [getP, fill_get hlt], rfl, rfl, rfl, fillLV (fun r => uLV (setN r)) (uLV 0) rows (k + 1), by rw [fill_get hlt]; exact fill_set hlt, ?_⟩
    ((repeat ((conv => whnf); first | refine brT ?_ | refine brF ?_)); conv => whnf)
    refine round_end (k + 1) hlt (by omega) ⟨?_, ⟨rfl, trivial⟩, rfl, rfl⟩
    have e := step_i hlt hp'
    ((repeat ((conv => whnf); first | refine ⟨e, ?_⟩ | refine ⟨rfl, ?_⟩)); trivial)
  · have h4 : k = rows.length := by rw [ltI_f] at h1; simp at h1; omega
    subst h4
    ((repeat ((conv => whnf); first | refine brT ?_ | refine brF ?_)); conv => whnf)
    exact ⟨[.hs 0 rows.length], by simp [tupOf], rfl, .inl ⟨⟨rfl, trivial⟩, ⟨congrArg (Blk.arr 170 1) fill_all, trivial⟩, rfl, rfl⟩⟩

/-- mapEach of rows of sets -/
theorem mapLists_h (ss : List Nat) (hs : ∀ s ∈ ss, s < 2 ^ 64) (hb : 24 * ss.length ≤ 281474976710656) :
    HSpec env.P 118 [.sl (ss.map uLV), .clos 119 []] [] (.hs 0 (ss.map fun s => rowOw (listN s)).length) [.tree 31 1 (ss.map fun s => rowOw (listN s))] := by
  refine HSpec_of_code (E := env.x [119] 0) env_ok.x (fn := Tryz.f118) Tryz.func118 rfl Tryz.call118 _ _ _ _ ?_
  ((repeat ((conv => whnf); first | refine brT ?_ | refine brF ?_)); conv => whnf)
  intro hp
  have hp' : ss.length ≤ Go.maxLen := by simpa using hp
  ((repeat ((conv => whnf); first | refine brT ?_ | refine brF ?_)); conv => whnf)
  refine ⟨ss.length, by simp, by simp, hb, hp', rfl, by decide, ?_⟩
  ((repeat ((conv => whnf); first | refine brT ?_ | refine brF ?_)); conv => whnf)
  intro _
  ((repeat ((conv => whnf); first | refine brT ?_ | refine brF ?_)); conv => whnf)
  refine loop_ruleR (α := Nat) [.old 0] (fun k => [(13, .int .i64 (k : Int))]) (fun k => [.tree 31 1 (fillLV (fun s => rowOw (listN s)) .nil ss k)]) (fun k => ss.length - k) (fun k => k ≤ ss.length) 0 (Nat.zero_le _) ?_ ?_
  · refine ⟨?_, ⟨rfl, by simp [fillLV, renB], trivial⟩, rfl⟩
    ((repeat ((conv => whnf); refine ⟨rfl, rfl, ?_⟩)); trivial)
  rintro k hk
  ((repeat ((conv => whnf); first | refine brT ?_ | refine brF ?_)); conv => whnf)
  (refine ⟨fun h1 => ?_, fun h1 => ?_⟩ <;> rw [h1])
  · have hlt : k < ss.length := by rw [ltI_t] at h1; simp at h1; omega
    ((repeat ((conv => whnf); first | refine brT ?_ | refine brF ?_)); conv => whnf)
    refine ⟨k, uLV ss[k], rfl, by simp [hlt], rfl, ?_⟩
    ((repeat ((conv => whnf); first | refine brT ?_ | refine brF ?_)); conv => whnf)
    refine ⟨[], _, _, _, _, listOf_h ss[k] (hs _ (List.getElem_mem hlt)), rfl, rfl, rfl, trivial, ?_⟩
    ((repeat ((conv => whnf); first | refine brT ?_ | refine brF ?_)); conv => whnf)
    refine ⟨(fill_len hk).symm, rfl, k, rfl, by rw [fill_len hk]; exact hlt, ?_⟩
    ((repeat ((conv => whnf); first | refine brT ?_ | refine brF ?_)); conv => whnf)
    refine ⟨rfl, ?_⟩
    ((repeat ((conv => whnf); first | refine brT ?_ | refine brF ?_)); conv => whnf)
    refine ⟨(fill_len hk).symm, rfl, .nil, .nil, fillLV (fun s => rowOw (listN s)) .nil ss (k + 1), fill_get hlt, rfl, rfl, fill_set hlt, ?_⟩
    ((repeat ((conv => whnf); first | refine brT ?_ | refine brF ?_)); conv => whnf)
    refine round_end (k + 1) hlt (by omega) ⟨?_, ⟨rfl, trivial⟩, rfl, rfl⟩
    have e := step_i hlt hp'
    ((repeat ((conv => whnf); first | refine ⟨e, ?_⟩ | refine ⟨rfl, ?_⟩)); trivial)
  · have h4 : k = ss.length := by rw [ltI_f] at h1; simp at h1; omega
    subst h4
    ((repeat ((conv => whnf); first | refine brT ?_ | refine brF ?_)); conv => whnf)
    exact ⟨[.hs 0 ss.length], by simp [tupOf], rfl, .inl ⟨⟨rfl, trivial⟩, ⟨congrArg (Blk.tree 31 1) fill_all, trivial⟩, rfl, rfl⟩⟩
end Go.Proofs.YtdhmnojnkgmmnaaGreat


namespace Go.Proofs.YtdhmnojnkgmmnaaGreat
open Go.Lg
set_option maxHeartbeats 1600000
set_option maxRecDepth 10000
set_option linter.unusedVariables false
set_option linter.unusedSimpArgs false

/-- The rows of what is related among n numbers. -/
def relRows (n : Nat) (P : Nat → Nat → Bool) : List (List Int) := (List.range n).map fun a => List.map (fun i : Nat => (i : Int)) (List.filter (fun b : Nat => P a b) (List.range n))
theorem relRows_len (n : Nat) (P : Nat → Nat → Bool) : (relRows n P).length = n := by simp [relRows]

theorem listTo_cut {s n : Nat} (h : ∀ i, n ≤ i → i < 40 → s.testBit i = false) (hn : n ≤ 40) : listN s = listTo s n := by
  have key : ∀ m, n ≤ m → m ≤ 40 → listTo s m = listTo s n := by
    intro m
    induction m with
    | zero => intro h1 _; have : n = 0 := by omega
              subst this; rfl
    | succ m ih =>
      intro h1 h2
      by_cases e : n = m + 1
      · subst e; rfl
      · rw [listTo_succ, ih (by omega) (by omega)]
        have : hasN s (m : Int) = false := by unfold hasN; simpa using h m (by omega) (by omega)
        rw [this]; simp
  exact key 40 hn (Nat.le_refl _)

/-- Sets of numbers, as rows. -/
theorem rows_of_sets {ss : List Nat} {n : Nat} {P : Nat → Nat → Bool} (hl : ss.length = n) (hn : n ≤ 40) (h : ∀ (a : Nat) (ha : a < ss.length) (b : Nat), b < 40 → ss[a].testBit b = (decide (b < n) && P a b)) :
    ss.map listN = relRows n P := by
  apply List.ext_getElem
  · simp [relRows, hl]
  · intro a h1 h2
    have ha : a < ss.length := by simpa using h1
    simp only [List.getElem_map, relRows, List.getElem_range]
    rw [listTo_cut (n := n) (fun i hi hi40 => by rw [h a ha i hi40]; simp; omega) hn]
    unfold listTo
    congr 1
    apply List.filter_congr
    intro b hb
    have hb : b < n := by simpa using hb
    rw [h a ha b (by omega)]; simp [hb]

theorem setsOf_h (n : Int) (rows : List (List Int)) (hr : ∀ r ∈ rows, inSize r ∧ r.length ≤ Go.maxLen) (hb : 8 * rows.length ≤ 281474976710656) :
    HSpec env.P 123 [relLV n rows] [] (.hs 0 (rows.map fun r => uLV (setN r)).length) [.arr 170 1 (rows.map fun r => uLV (setN r))] := by
  refine HSpec_of_code (E := env.x [124] 0) env_ok.x (fn := Tryz.f123) Tryz.func123 rfl Tryz.call123 _ _ _ _ ?_
  ((repeat ((conv => whnf); first | refine brT ?_ | refine brF ?_)); conv => whnf)
  refine ⟨[], _, _, _, _, mapSets_h rows hr hb, rfl, rfl, rfl, trivial, ?_⟩
  ((repeat ((conv => whnf); first | refine brT ?_ | refine brF ?_)); conv => whnf)
  exact ⟨[.hs 0 (rows.map fun r => uLV (setN r)).length], rfl, rfl, .inr ⟨[.old 1], ⟨rfl, rfl, trivial⟩, ⟨rfl, rfl, trivial⟩, rfl⟩⟩

theorem flatTs_rows : ∀ rows : List (List Int), flatTs (rows.map rowOw) = true
  | [] => rfl
  | r :: rs => by simp only [List.map_cons, flatTs, Bool.and_eq_true]; exact ⟨by simp only [rowOw, flatT1]; exact flats_ints r, flatTs_rows rs⟩

theorem relationOfSets_h (ss : List Nat) (hs : ∀ s ∈ ss, s < 2 ^ 64) (hb : 24 * ss.length ≤ 281474976710656) (hm : ss.length ≤ Go.maxLen) :
    HSpec env.P 76 [.sl (ss.map uLV)] [] (relHS ss.length 0 ((ss.map listN).map rowOw).length) [.tree 31 1 ((ss.map listN).map rowOw)] := by
  refine HSpec_of_code (E := env.x [118] 0) env_ok.x (fn := Tryz.f76) Tryz.func76 rfl Tryz.call76 _ _ _ _ ?_
  ((repeat ((conv => whnf); first | refine brT ?_ | refine brF ?_)); conv => whnf)
  refine ⟨[], _, _, _, _, mapLists_h ss hs hb, rfl, rfl, rfl, trivial, ?_⟩
  ((repeat ((conv => whnf); first | refine brT ?_ | refine brF ?_)); conv => whnf)
  intro _
  ((repeat ((conv => whnf); first | refine brT ?_ | refine brF ?_)); conv => whnf)
  refine ⟨[relHS ss.length 0 ((ss.map listN).map rowOw).length], rfl, rfl, .inr ⟨[.old 1], ?_, ?_, rfl⟩⟩
  · have e : LV.st [LV.int .i64 ((ss.map uLV).length : Int), LV.hs 0 (ss.map fun s => rowOw (listN s)).length] = relHS ss.length 0 ((ss.map listN).map rowOw).length := by simp [relHS]
    exact ⟨rfl, e, trivial⟩
  · exact ⟨rfl, congrArg (Blk.tree 31 1) (by rw [List.map_map]; rfl), trivial⟩

/-- Both valid, of one size. -/
def alike (n : Int) (rows : List (List Int)) (m : Int) (rows' : List (List Int)) : Bool := eqI n m && relOk n rows && relOk m rows'
theorem areAlike_spec (n : Int) (rows : List (List Int)) (m : Int) (rows' : List (List Int)) : FSpec env.P 122 [relLV n rows, relLV m rows'] (.bool (alike n rows m rows')) := by
  refine FSpec_of_code env_ok (fn := Tryz.f122) Tryz.func122 rfl Tryz.call122 _ _ ?_
  ((repeat' (((repeat ((conv => whnf); first | refine brT ?_ | refine brF ?_)); conv => whnf); first | (refine And.intro ?_ ?_ <;> (intro h; rw [h]; revert h; intro _)) | (refine Exists.intro true (And.intro (a := drawB _ _ = true) (by kernel_rfl) ?_)) | (refine Exists.intro _ (And.intro (isRelation_impl n rows) ?_)) | (refine Exists.intro _ (And.intro (isRelation_impl m rows') ?_)))); all_goals ((repeat ((conv => whnf); first | refine brT ?_ | refine brF ?_)); conv => whnf))
  all_goals (refine fin ?_; simp_all [alike])
def bLV (b : Bool) : LV := .bool b
end Go.Proofs.YtdhmnojnkgmmnaaGreat

namespace Go.Proofs.YtdhmnojnkgmmnaaGreat
open Go.Lg
set_option maxHeartbeats 1600000
set_option maxRecDepth 10000
set_option linter.unusedVariables false
set_option linter.unusedSimpArgs false

end Go.Proofs.YtdhmnojnkgmmnaaGreat

namespace Go.Proofs.YtdhmnojnkgmmnaaGreat
open Go.Lg
set_option maxHeartbeats 1600000
set_option maxRecDepth 10000
set_option linter.unusedVariables false
set_option linter.unusedSimpArgs false

end Go.Proofs.YtdhmnojnkgmmnaaGreat

namespace Go.Proofs.YtdhmnojnkgmmnaaGreat
open Go.Lg
set_option maxHeartbeats 1600000
set_option maxRecDepth 10000
set_option linter.unusedVariables false
set_option linter.unusedSimpArgs false

end Go.Proofs.YtdhmnojnkgmmnaaGreat

namespace Go.Proofs.YtdhmnojnkgmmnaaGreat
open Go.Lg
set_option maxHeartbeats 1600000
set_option maxRecDepth 10000
set_option linter.unusedVariables false
set_option linter.unusedSimpArgs false

def idxOf : Nat → List Int → Int → Int
  | _, [], _ => -1
  | k, x :: xs, v => match eqI v x with | true => (k : Int) | false => idxOf (k + 1) xs v
end Go.Proofs.YtdhmnojnkgmmnaaGreat

namespace Go.Proofs.YtdhmnojnkgmmnaaGreat
open Go.Lg
set_option maxHeartbeats 1600000
set_option maxRecDepth 10000
set_option linter.unusedVariables false
set_option linter.unusedSimpArgs false

/-! ### Tables and sets of one predicate -/
/-- One place set. -/
def putP (P : Nat → Nat → Bool) (a b : Nat) (v : Bool) : Nat → Nat → Bool := fun x y => if x = a ∧ y = b then v else P x y
theorem relRows_ext {n : Nat} {P Q : Nat → Nat → Bool} (h : ∀ a, a < n → ∀ b, b < n → P a b = Q a b) : relRows n P = relRows n Q := by
  unfold relRows
  apply List.map_congr_left
  intro a ha
  congr 1
  apply List.filter_congr
  intro b hb
  exact h a (by simpa using ha) b (by simpa using hb)
/-! ### Sets -/
def bitsP : Nat → (Nat → Bool) → Nat
  | 0, _ => 0
  | n + 1, p => bitsP n p ||| (if p n then 2 ^ n else 0)
theorem bitsP_bit (p : Nat → Bool) : ∀ (n i : Nat), (bitsP n p).testBit i = (decide (i < n) && p i)
  | 0, i => by simp [bitsP]
  | n + 1, i => by
    simp only [bitsP]
    rw [Nat.testBit_or, bitsP_bit p n i]
    by_cases e : i = n
    · subst e
      cases h : p i <;> simp [Nat.testBit_two_pow]
    · have h2 : decide (i < n + 1) = decide (i < n) := by rw [decide_eq_decide]; omega
      rw [h2]
      cases h : p n
      · simp
      · have : ¬ n = i := fun h => e h.symm
        simp [Nat.testBit_two_pow, this]
theorem bitsP_lt (p : Nat → Bool) : ∀ n, bitsP n p < 2 ^ n
  | 0 => by simp [bitsP]
  | n + 1 => by
    simp only [bitsP]
    have h := bitsP_lt p n
    have h2 : 2 ^ n < 2 ^ (n + 1) := Nat.pow_lt_pow_right (by omega) (by omega)
    refine Nat.or_lt_two_pow (by omega) ?_
    split <;> omega
theorem bitsP_64 {n : Nat} (p : Nat → Bool) (h : n ≤ 64) : bitsP n p < 2 ^ 64 := Nat.lt_of_lt_of_le (bitsP_lt p n) (Nat.pow_le_pow_right (by omega) h)
def setsP (n : Nat) (P : Nat → Nat → Bool) : List Nat := (List.range n).map fun a => bitsP n (P a)
theorem setsP_len (n : Nat) (P : Nat → Nat → Bool) : (setsP n P).length = n := by simp [setsP]
theorem setsP_get {n a : Nat} {P : Nat → Nat → Bool} (h : a < n) : (setsP n P)[a]? = some (bitsP n (P a)) := by simp [setsP, h]
theorem setsP_lt {n : Nat} {P : Nat → Nat → Bool} (h : n ≤ 64) : ∀ s ∈ setsP n P, s < 2 ^ 64 := by
  intro s hs
  unfold setsP at hs
  obtain ⟨a, _, rfl⟩ := List.mem_map.1 hs
  exact bitsP_64 _ h
/-- One row set. -/
def rowP (P : Nat → Nat → Bool) (a : Nat) (p : Nat → Bool) : Nat → Nat → Bool := fun x y => if x = a then p y else P x y
theorem setsP_set {n a : Nat} {P : Nat → Nat → Bool} {p : Nat → Bool} {s : Nat} (h : s = bitsP n p) : (setsP n P).set a s = setsP n (rowP P a p) := by
  subst h
  apply List.ext_getElem
  · simp [setsP]
  · intro x h1 h2
    rw [List.getElem_set]
    simp only [setsP, List.getElem_map, List.getElem_range]
    by_cases e : a = x
    · subst e
      rw [if_pos rfl]
      congr 1
      funext y
      simp [rowP]
    · have : ¬ x = a := fun h => e h.symm
      rw [if_neg e]
      congr 1
      funext y
      simp [rowP, this]
theorem bits_ext {n s : Nat} {p : Nat → Bool} (h : ∀ i, s.testBit i = (decide (i < n) && p i)) : s = bitsP n p := by
  apply Nat.eq_of_testBit_eq
  intro i
  rw [h, bitsP_bit]
theorem bitsP_or {n : Nat} {p q : Nat → Bool} : bitsP n p ||| bitsP n q = bitsP n fun y => p y || q y :=
  bits_ext fun i => by rw [Nat.testBit_or, bitsP_bit, bitsP_bit]; cases decide (i < n) <;> simp
theorem bitsP_add {n b : Nat} {p : Nat → Bool} (hb : b < n) : bitsP n p ||| 2 ^ b = bitsP n fun y => if y = b then true else p y :=
  bits_ext fun i => by
    rw [Nat.testBit_or, bitsP_bit, Nat.testBit_two_pow]
    by_cases e : i = b
    · subst e; simp [hb]
    · have : ¬ b = i := fun h => e h.symm
      simp [e, this]
theorem setsP_add {n a b : Nat} {P : Nat → Nat → Bool} (hb : b < n) : (setsP n P).set a (bitsP n (P a) ||| 2 ^ b) = setsP n (putP P a b true) := by
  rw [setsP_set (p := fun y => if y = b then true else P a y) (bitsP_add hb)]
  congr 1
  funext x y
  simp only [rowP, putP]
  by_cases e : x = a
  · subst e; simp
  · simp [e]
theorem setsP_rows {n : Nat} {P : Nat → Nat → Bool} (hn : n ≤ 40) : (setsP n P).map listN = relRows n P := by
  refine rows_of_sets (setsP_len n P) hn fun a ha b hb => ?_
  simp only [setsP, List.getElem_map, List.getElem_range]
  exact bitsP_bit _ _ _
theorem setsP_zero (n : Nat) : List.replicate n 0 = setsP n (fun _ _ => false) := by
  unfold setsP
  apply List.ext_getElem
  · simp
  · intro a h1 h2
    simp only [List.getElem_replicate, List.getElem_map]
    exact bits_ext fun i => by simp

/-- What valid rows say. -/
def relP (rows : List (List Int)) (a b : Nat) : Bool := decide ((b : Int) ∈ rows.getD a [])
theorem sets_P {n : Int} {rows : List (List Int)} (hr : RelIn n rows) : rows.map setN = setsP rows.length (relP rows) := by
  apply List.ext_getElem
  · simp [setsP]
  · intro a h1 h2
    have ha : a < rows.length := by simpa using h1
    simp only [List.getElem_map, setsP, List.getElem_range]
    refine bits_ext fun i => ?_
    have hin : inSize rows[a] := fun b hb => by have := hr.mem (List.getElem_mem ha) hb; omega
    rw [setN_bit hin]
    have hl := hr.len
    have : rows.getD a [] = rows[a] := by simp [List.getD_eq_getElem?_getD, ha]
    simp only [relP, this]
    by_cases hm : (i : Int) ∈ rows[a]
    · have := (hr.mem (List.getElem_mem ha) hm).2.1
      have hi : i < rows.length := by omega
      simp [hm, hi]
    · simp [hm]
theorem rowFrom_filter {n : Nat} {p : Nat → Bool} : ∀ (k : Nat) (m : Nat) (last : Int), k + m = n → last < k → rowFrom n last (List.map (fun i : Nat => (i : Int)) (List.filter p (List.range' k m))) = true
  | k, 0, last, _, _ => by simp [rowFrom]
  | k, m + 1, last, h, hl => by
    rw [List.range'_succ]
    simp only [List.filter_cons]
    split
    · simp only [List.map_cons, rowFrom]
      rw [show leI (k : Int) last = false by rw [leI_f]; omega, show leI (n : Int) (k : Int) = false by rw [leI_f]; omega]
      exact rowFrom_filter (k + 1) m k (by omega) (by omega)
    · exact rowFrom_filter (k + 1) m last (by omega) (by omega)
theorem relRows_in {n : Nat} {P : Nat → Nat → Bool} (hn : n ≤ 40) : RelIn n (relRows n P) := by
  refine ⟨by omega, by omega, by rw [relRows_len], fun r hr => ?_⟩
  unfold relRows at hr
  obtain ⟨a, _, rfl⟩ := List.mem_map.1 hr
  rw [List.range_eq_range']
  exact rowFrom_filter 0 n (-1) (by omega) (by omega)
theorem relRows_mem {n a b : Nat} {P : Nat → Nat → Bool} (ha : a < n) : (b : Int) ∈ (relRows n P).getD a [] ↔ b < n ∧ P a b = true := by
  have : (relRows n P).getD a [] = List.map (fun i : Nat => (i : Int)) (List.filter (fun b : Nat => P a b) (List.range n)) := by
    simp [relRows, List.getD_eq_getElem?_getD, ha]
  rw [this]
  simp only [List.mem_map, List.mem_filter, List.mem_range]
  constructor
  · rintro ⟨i, h, e⟩
    have : i = b := by omega
    subst this; exact h
  · intro h; exact ⟨b, h, rfl⟩
theorem relP_relRows {n : Nat} {P : Nat → Nat → Bool} {a b : Nat} (ha : a < n) (hb : b < n) : relP (relRows n P) a b = P a b := by
  unfold relP
  cases h : P a b
  · rw [decide_eq_false_iff_not, relRows_mem ha]; simp [h]
  · rw [decide_eq_true_iff, relRows_mem ha]; exact ⟨hb, h⟩
/-! ### Rounds -/
end Go.Proofs.YtdhmnojnkgmmnaaGreat


namespace Go.Proofs.YtdhmnojnkgmmnaaGreat
open Go.Lg
set_option maxHeartbeats 1600000
set_option maxRecDepth 10000
set_option linter.unusedVariables false
set_option linter.unusedSimpArgs false

theorem RelIn.size {n : Int} {rows : List (List Int)} (h : RelIn n rows) : rows.length ≤ 40 := by have := h.len; have := h.hi; omega
theorem RelIn.ins {n : Int} {rows : List (List Int)} (h : RelIn n rows) : ∀ r ∈ rows, inSize r ∧ r.length ≤ Go.maxLen := fun r hr =>
  ⟨fun b hb => by have := h.mem hr hb; omega, by have := h.rlen hr; unfold Go.maxLen; omega⟩
theorem alike_in {n : Int} {rows : List (List Int)} {m : Int} {rows' : List (List Int)} (h : alike n rows m rows' = true) : RelIn n rows ∧ RelIn n rows' ∧ n = m ∧ rows'.length = rows.length := by
  unfold alike at h
  simp only [Bool.and_eq_true, eqI_t] at h
  obtain ⟨⟨rfl, h1⟩, h2⟩ := h
  have a := relIn_of h1
  have b := relIn_of h2
  exact ⟨a, b, rfl, by have := a.len; have := b.len; omega⟩

theorem setsOf_P (n : Int) (rows : List (List Int)) (hr : RelIn n rows) :
    HSpec env.P 123 [relLV n rows] [] (.hs 0 ((setsP rows.length (relP rows)).map uLV).length) [.arr 170 1 ((setsP rows.length (relP rows)).map uLV)] := by
  have h := setsOf_h n rows hr.ins (by have := hr.size; omega)
  have e : (rows.map fun r => uLV (setN r)) = (setsP rows.length (relP rows)).map uLV := by rw [← sets_P hr, List.map_map]; rfl
  rw [e] at h
  exact h
theorem relationOfSets_P (N : Nat) (P : Nat → Nat → Bool) (hN : N ≤ 40) :
    HSpec env.P 76 [.sl ((setsP N P).map uLV)] [] (relHS N 0 ((relRows N P).map rowOw).length) [.tree 31 1 ((relRows N P).map rowOw)] := by
  have h := relationOfSets_h (setsP N P) (setsP_lt (by omega)) (by rw [setsP_len]; omega) (by rw [setsP_len]; unfold Go.maxLen; omega)
  rw [setsP_len, setsP_rows hN] at h
  exact h

/-- How many rows the result has. -/
def rsN (ok : Bool) (rows : List (List Int)) : Nat := match ok with | true => rows.length | false => 0
end Go.Proofs.YtdhmnojnkgmmnaaGreat

namespace Go.Proofs.YtdhmnojnkgmmnaaGreat
open Go.Lg
set_option maxHeartbeats 1600000
set_option maxRecDepth 10000
set_option linter.unusedVariables false
set_option linter.unusedSimpArgs false

theorem add_elem (N : Nat) (P : Nat → Nat → Bool) (a b : Nat) (ha : a < N) (hb : b < N) (hN : N ≤ 40) (n : Nat) (hn : n = ((setsP N P).map uLV).length) :
    HSpec env.P 121 [.hp 0 n [a], .int .i64 (b : Int)] [.arr 170 1 ((setsP N P).map uLV)] (.tup []) [.arr 170 1 ((setsP N (putP P a b true)).map uLV)] := by
  subst hn
  have g1 : ((setsP N P).map uLV)[a]? = some (uLV (bitsP N (P a))) := by rw [List.getElem?_map, setsP_get ha]; rfl
  refine HSpec_of_code (E := env.x [] 1) env_ok.x (fn := Tryz.f121) Tryz.func121 rfl Tryz.call121 _ _ _ _ ?_
  ((repeat ((conv => whnf); first | refine brT ?_ | refine brF ?_)); conv => whnf)
  refine ⟨true, by kernel_rfl, ?_⟩
  ((repeat ((conv => whnf); first | refine brT ?_ | refine brF ?_)); conv => whnf)
  refine ⟨rfl, by simp, _, by simp only [getP]; rw [g1], rfl, ?_⟩
  ((repeat ((conv => whnf); first | refine brT ?_ | refine brF ?_)); conv => whnf)
  refine ⟨by omega, ?_⟩
  ((repeat ((conv => whnf); first | refine brT ?_ | refine brF ?_)); conv => whnf)
  have e : LV.int .u64 (Go.Lg.orI .u64 ((bitsP N (P a) : Nat) : Int) (shlI .u64 1 (b : Int))) = uLV (bitsP N (P a) ||| 2 ^ b) := by
    rw [shlI_one (by omega) (by omega), orI_nat (bitsP_64 _ (by omega)) (two_lt (by omega))]; rfl
  have e2 : ((setsP N P).map uLV).set a (uLV (bitsP N (P a) ||| 2 ^ b)) = (setsP N (putP P a b true)).map uLV := by rw [← setsP_add hb, List.map_set]
  refine ⟨rfl, a, [], uLV (bitsP N (P a)), rfl, by simp only [getP]; rw [g1], rfl, rfl, rfl, (setsP N (putP P a b true)).map uLV, by rw [g1]; show List.set _ _ (LV.int _ _) = _; rw [e]; exact e2, ?_⟩
  ((repeat ((conv => whnf); first | refine brT ?_ | refine brF ?_)); conv => whnf)
  exact ⟨[], rfl, rfl, .inl ⟨trivial, ⟨rfl, trivial⟩, rfl, rfl⟩⟩
end Go.Proofs.YtdhmnojnkgmmnaaGreat

namespace Go.Proofs.YtdhmnojnkgmmnaaGreat
open Go.Lg
set_option maxHeartbeats 1600000
set_option maxRecDepth 10000
set_option linter.unusedVariables false
set_option linter.unusedSimpArgs false

/-! ### The closure, by rows and place by place -/
end Go.Proofs.YtdhmnojnkgmmnaaGreat

namespace Go.Proofs.YtdhmnojnkgmmnaaGreat
open Go.Lg
set_option maxHeartbeats 1600000
set_option maxRecDepth 10000
set_option linter.unusedVariables false
set_option linter.unusedSimpArgs false

/-! ### Composition -/
/-- What is reached from a set over the rows of Q. -/
def onP (N : Nat) (p : Nat → Bool) (Q : Nat → Nat → Bool) : Nat → Bool := fun c => decide (∃ b, b < N ∧ p b = true ∧ Q b c = true)
def compP (N : Nat) (P Q : Nat → Nat → Bool) : Nat → Nat → Bool := fun a c => onP N (P a) Q c
def inTake (r : List Int) (i : Nat) : Nat → Bool := fun b => decide ((b : Int) ∈ r.take i)
theorem onP_succ {N : Nat} {r : List Int} {i b : Nat} {Q : Nat → Nat → Bool} (hi : i < r.length) (hb : r[i] = (b : Int)) (hbN : b < N) : (fun c => onP N (inTake r i) Q c || Q b c) = onP N (inTake r (i + 1)) Q := by
  funext c
  unfold onP inTake
  rw [List.take_succ_eq_append_getElem hi]
  rw [Bool.eq_iff_iff]
  simp only [Bool.or_eq_true, decide_eq_true_eq, List.mem_append, List.mem_singleton, hb]
  constructor
  · rintro (⟨b', h1, h2, h3⟩ | h)
    · exact ⟨b', h1, .inl h2, h3⟩
    · exact ⟨b, hbN, .inr rfl, h⟩
  · rintro ⟨b', h1, h2 | h2, h3⟩
    · exact .inl ⟨b', h1, h2, h3⟩
    · have : b' = b := by omega
      subst this; exact .inr h3
theorem onP_zero {N : Nat} {r : List Int} {Q : Nat → Nat → Bool} : onP N (inTake r 0) Q = fun _ => false := by funext c; simp [onP, inTake]

theorem compose1_spec (N : Nat) (Q : Nat → Nat → Bool) (hN : N ≤ 40) (row : List Int) (hr : ∀ b ∈ row, 0 ≤ b ∧ b < N) (hm : row.length ≤ Go.maxLen) :
    FSpec env.P 125 [rowSl row, .ref (.sl ((setsP N Q).map uLV))] (uLV (bitsP N (onP N (inTake row row.length) Q))) := by
  refine FSpec_of_code env_ok (fn := Tryz.f125) Tryz.func125 rfl Tryz.call125 _ _ ?_
  ((repeat ((conv => whnf); first | refine brT ?_ | refine brF ?_)); conv => whnf)
  intro _
  rw [List.length_map]
  ((repeat ((conv => whnf); first | refine brT ?_ | refine brF ?_)); conv => whnf)
  refine loop_rule (α := Nat) (fun k => [(9, .int .i64 (k : Int)), (4, uLV (bitsP N (onP N (inTake row k) Q)))]) (fun _ => []) (fun k => row.length - k) (fun k => k ≤ row.length) 0 (Nat.zero_le _) ?_ ?_
  · refine ⟨?_, trivial, rfl, rfl⟩
    have e0 : LV.int .u64 0 = uLV (bitsP N (onP N (inTake row 0) Q)) := by rw [onP_zero]; rw [show bitsP N (fun _ => false) = 0 from (bits_ext fun i => by simp).symm]; rfl
    ((repeat ((conv => whnf); first | refine ⟨e0, ?_⟩ | refine ⟨rfl, ?_⟩)); trivial)
  intro k hk
  ((repeat ((conv => whnf); first | refine brT ?_ | refine brF ?_)); conv => whnf)
  (refine ⟨fun h1 => ?_, fun h1 => ?_⟩ <;> rw [h1])
  · have hlt : k < row.length := by rw [ltI_t] at h1; omega
    have e := step_i hlt hm
    have hb := hr row[k] (List.getElem_mem hlt)
    obtain ⟨b, hb'⟩ : ∃ b : Nat, row[k] = (b : Int) := ⟨row[k].toNat, by omega⟩
    have hbN : b < N := by omega
    have e2 : LV.int .u64 (Go.Lg.orI .u64 ((bitsP N (onP N (inTake row k) Q) : Nat) : Int) ((bitsP N (Q b) : Nat) : Int)) = uLV (bitsP N (onP N (inTake row (k + 1)) Q)) := by
      rw [orI_nat (bitsP_64 _ (by omega)) (bitsP_64 _ (by omega)), bitsP_or, onP_succ hlt hb' hbN]; rfl
    ((repeat ((conv => whnf); first | refine brT ?_ | refine brF ?_)); conv => whnf)
    refine ⟨k, intLV row[k], rfl, by simp [hlt], rfl, ?_⟩
    rw [hb']
    ((repeat ((conv => whnf); first | refine brT ?_ | refine brF ?_)); conv => whnf)
    refine ⟨b, uLV (bitsP N (Q b)), rfl, by rw [List.getElem?_map, setsP_get hbN]; rfl, rfl, ?_⟩
    ((repeat ((conv => whnf); first | refine brT ?_ | refine brF ?_)); conv => whnf)
    refine round_end (k + 1) hlt (by omega) ⟨?_, trivial, rfl, rfl⟩
    repeat ((conv => whnf); first | refine ⟨e, ?_⟩ | refine ⟨e2, ?_⟩ | refine ⟨rfl, ?_⟩)
    trivial
  · have h3 : k = row.length := by rw [ltI_f] at h1; omega
    subst h3
    ((repeat ((conv => whnf); first | refine brT ?_ | refine brF ?_)); conv => whnf)
    exact ⟨rfl, rfl, List.nodup_nil⟩

/-- mapEach of a closure that captured one place -/
theorem mapRows_f (F : Nat) (S : LV) (rows : List (List Int)) (g : List Int → Nat) (hF : ∀ r ∈ rows, FSpec env.P F [rowSl r, .ref S] (uLV (g r))) (hb : 8 * rows.length ≤ 281474976710656) :
    FSpec env.P 124 [.sl (rows.map rowSl), .clos F [.ref S]] (.own 170 1 (rows.map fun r => uLV (g r))) := by
  refine FSpec_of_code env_ok (fn := Tryz.f124) Tryz.func124 rfl Tryz.call124 _ _ ?_
  ((repeat ((conv => whnf); first | refine brT ?_ | refine brF ?_)); conv => whnf)
  intro hp
  have hp' : rows.length ≤ Go.maxLen := by simpa using hp
  ((repeat ((conv => whnf); first | refine brT ?_ | refine brF ?_)); conv => whnf)
  refine ⟨rows.length, by simp, by simp, hb, hp', rfl, by decide, ?_⟩
  ((repeat ((conv => whnf); first | refine brT ?_ | refine brF ?_)); conv => whnf)
  intro _
  ((repeat ((conv => whnf); first | refine brT ?_ | refine brF ?_)); conv => whnf)
  refine loop_rule (α := Nat) (fun k => [(13, .int .i64 (k : Int))]) (fun k => [.arr 170 1 (fillLV (fun r => uLV (g r)) (uLV 0) rows k)]) (fun k => rows.length - k) (fun k => k ≤ rows.length) 0 (Nat.zero_le _) ?_ ?_
  · refine ⟨?_, ⟨by simp [fillLV, uLV], trivial⟩, rfl, rfl⟩
    ((repeat ((conv => whnf); refine ⟨rfl, ?_⟩)); trivial)
  rintro k hk
  ((repeat ((conv => whnf); first | refine brT ?_ | refine brF ?_)); conv => whnf)
  (refine ⟨fun h1 => ?_, fun h1 => ?_⟩ <;> rw [h1])
  · have hlt : k < rows.length := by rw [ltI_t] at h1; simp at h1; omega
    ((repeat ((conv => whnf); first | refine brT ?_ | refine brF ?_)); conv => whnf)
    refine ⟨k, rowSl rows[k], rfl, by simp [hlt], rfl, ?_⟩
    ((repeat ((conv => whnf); first | refine brT ?_ | refine brF ?_)); conv => whnf)
    refine ⟨_, hF rows[k] (List.getElem_mem hlt), ?_⟩
    ((repeat ((conv => whnf); first | refine brT ?_ | refine brF ?_)); conv => whnf)
    refine ⟨(fill_len hk).symm, rfl, k, rfl, by rw [fill_len hk]; exact hlt, ?_⟩
    ((repeat ((conv => whnf); first | refine brT ?_ | refine brF ?_)); conv => whnf)
    refine ⟨(fill_len hk).symm, k, [], uLV 0, rfl, by simp [getP, fill_get hlt], rfl, rfl, rfl, fillLV (fun r => uLV (g r)) (uLV 0) rows (k + 1), by rw [fill_get hlt]; exact fill_set hlt, ?_⟩
    ((repeat ((conv => whnf); first | refine brT ?_ | refine brF ?_)); conv => whnf)
    refine round_end (k + 1) hlt (by omega) ⟨?_, ⟨rfl, trivial⟩, rfl, rfl⟩
    have e := step_i hlt hp'
    ((repeat ((conv => whnf); first | refine ⟨e, ?_⟩ | refine ⟨rfl, ?_⟩)); trivial)
  · have h4 : k = rows.length := by rw [ltI_f] at h1; simp at h1; omega
    subst h4
    ((repeat ((conv => whnf); first | refine brT ?_ | refine brF ?_)); conv => whnf)
    exact ⟨(fill_len (Nat.le_refl _)).symm, rfl, rfl, fill_all, by simp⟩

theorem comp_rows {n : Int} {rows : List (List Int)} (hr : RelIn n rows) (Q : Nat → Nat → Bool) : (rows.map fun r => bitsP rows.length (onP rows.length (inTake r r.length) Q)) = setsP rows.length (compP rows.length (relP rows) Q) := by
  apply List.ext_getElem
  · simp [setsP]
  · intro a h1 h2
    have ha : a < rows.length := by simpa using h1
    simp only [List.getElem_map, setsP, List.getElem_range]
    congr 1
    funext c
    unfold compP onP inTake relP
    have : rows.getD a [] = rows[a] := by simp [List.getD_eq_getElem?_getD, ha]
    rw [this, List.take_length]

theorem implCompose_h (n : Int) (rows : List (List Int)) (m : Int) (rows' : List (List Int)) :
    HSpec env.P 78 [relLV n rows, relLV m rows'] [] (relHS (rsN (alike n rows m rows') rows) 0 ((relRows (rsN (alike n rows m rows') rows) (compP rows.length (relP rows) (relP rows'))).map rowOw).length)
      [.tree 31 1 ((relRows (rsN (alike n rows m rows') rows) (compP rows.length (relP rows) (relP rows'))).map rowOw)] := by
  refine HSpec_of_code (E := env.x [123, 76] 0) env_ok.x (fn := Tryz.f78) Tryz.func78 rfl Tryz.call78 _ _ _ _ ?_
  ((repeat ((conv => whnf); first | refine brT ?_ | refine brF ?_)); conv => whnf)
  refine ⟨_, areAlike_spec n rows m rows', ?_⟩
  ((repeat ((conv => whnf); first | refine brT ?_ | refine brF ?_)); conv => whnf)
  (refine ⟨fun h => ?_, fun h => ?_⟩ <;> rw [h])
  · rw [notB_t] at h
    rw [h]
    ((repeat ((conv => whnf); first | refine brT ?_ | refine brF ?_)); conv => whnf)
    exact ⟨[relHS 0 0 0], rfl, rfl, .nl [.tmp 0 [1] true 31 1] [.old 3] ⟨⟨rfl, rfl, trivial⟩, ⟨rfl, rfl, trivial⟩, rfl⟩⟩
  rw [notB_f] at h
  rw [h, show rsN true rows = rows.length from rfl]
  obtain ⟨hr, hs, rfl, hl⟩ := alike_in h
  have hN := hr.size
  have hq := setsOf_P n rows' hs
  rw [hl] at hq
  ((repeat ((conv => whnf); first | refine brT ?_ | refine brF ?_)); conv => whnf)
  refine ⟨[], _, _, _, _, hq, rfl, rfl, rfl, trivial, ?_⟩
  ((repeat ((conv => whnf); first | refine brT ?_ | refine brF ?_)); conv => whnf)
  refine ⟨rfl, ?_⟩
  ((repeat ((conv => whnf); first | refine brT ?_ | refine brF ?_)); conv => whnf)
  have hf := mapRows_f 125 (.sl ((setsP rows.length (relP rows')).map uLV)) rows (fun r => bitsP rows.length (onP rows.length (inTake r r.length) (relP rows')))
    (fun r hx => compose1_spec rows.length (relP rows') hN r (fun b hb => by have := hr.mem hx hb; have := hr.len; omega) (by have := hr.rlen hx; unfold Go.maxLen; omega)) (by omega)
  have e : (rows.map fun r => uLV (bitsP rows.length (onP rows.length (inTake r r.length) (relP rows')))) = (setsP rows.length (compP rows.length (relP rows) (relP rows'))).map uLV := by
    rw [← comp_rows hr, List.map_map]; rfl
  rw [e] at hf
  refine ⟨_, hf, ?_⟩
  have hflat : flatT (LV.own 170 1 ((setsP rows.length (compP rows.length (relP rows) (relP rows'))).map uLV)) = true := by
    simp only [flatT, flatB]
    generalize setsP rows.length (compP rows.length (relP rows) (relP rows')) = l
    induction l with
    | nil => rfl
    | cons x xs ih => simp only [List.map_cons, flatsB, ih]; rfl
  rw [hflat]
  ((repeat ((conv => whnf); first | refine brT ?_ | refine brF ?_)); conv => whnf)
  refine ⟨[], _, _, _, _, relationOfSets_P rows.length (compP rows.length (relP rows) (relP rows')) hN, rfl, rfl, rfl, trivial, ?_⟩
  ((repeat ((conv => whnf); first | refine brT ?_ | refine brF ?_)); conv => whnf)
  refine ⟨[relHS rows.length 0 ((relRows rows.length (compP rows.length (relP rows) (relP rows'))).map rowOw).length], rfl, rfl, .inr ⟨[.old 5], ⟨rfl, rfl, trivial⟩, ⟨rfl, rfl, trivial⟩, rfl⟩⟩
end Go.Proofs.YtdhmnojnkgmmnaaGreat


namespace Go.Proofs.YtdhmnojnkgmmnaaGreat
open Go.Lg
set_option maxHeartbeats 1600000
set_option maxRecDepth 10000
set_option linter.unusedVariables false
set_option linter.unusedSimpArgs false

end Go.Proofs.YtdhmnojnkgmmnaaGreat

namespace Go.Proofs.YtdhmnojnkgmmnaaGreat
open Go.Lg
set_option maxHeartbeats 1600000
set_option maxRecDepth 10000
set_option linter.unusedVariables false
set_option linter.unusedSimpArgs false

/-! ### Composition place by place -/
end Go.Proofs.YtdhmnojnkgmmnaaGreat

namespace Go.Proofs.YtdhmnojnkgmmnaaGreat
open Go.Lg
set_option maxHeartbeats 1600000
set_option maxRecDepth 10000
set_option linter.unusedVariables false
set_option linter.unusedSimpArgs false

end Go.Proofs.YtdhmnojnkgmmnaaGreat

namespace Go.Proofs.YtdhmnojnkgmmnaaGreat
open Go.Lg
set_option maxHeartbeats 1600000
set_option maxRecDepth 10000
set_option linter.unusedVariables false
set_option linter.unusedSimpArgs false

end Go.Proofs.YtdhmnojnkgmmnaaGreat

namespace Go.Proofs.YtdhmnojnkgmmnaaGreat
open Go.Lg
set_option maxHeartbeats 1600000
set_option maxRecDepth 10000
set_option linter.unusedVariables false
set_option linter.unusedSimpArgs false

end Go.Proofs.YtdhmnojnkgmmnaaGreat

namespace Go.Proofs.YtdhmnojnkgmmnaaGreat
open Go.Lg
set_option maxHeartbeats 1600000
set_option maxRecDepth 10000
set_option linter.unusedVariables false
set_option linter.unusedSimpArgs false

end Go.Proofs.YtdhmnojnkgmmnaaGreat

namespace Go.Proofs.YtdhmnojnkgmmnaaGreat
open Go.Lg
set_option maxHeartbeats 1600000
set_option maxRecDepth 10000
set_option linter.unusedVariables false
set_option linter.unusedSimpArgs false

/-! A row whose element i is written field by field. -/
section
variable {L : List LV} {i : Nat}
theorem fw_get (h : i < L.length) (fs : List LV) : getP (.st (L.set i (.st fs))) [i] = some (.st fs) := by simp [getP, h]
theorem fw_get2 (h : i < L.length) {fs : List LV} {f : Nat} {x : LV} (hx : fs[f]? = some x) : getP (.st (L.set i (.st fs))) [i, f] = some x := by simp [getP, h, hx]
theorem fw_set (h : i < L.length) {fs : List LV} {f : Nat} {x : LV} (hx : fs[f]? = some x) (v : LV) :
    (match (L.set i (.st fs))[i]? with | some z => (L.set i (.st fs)).set i (setP z [f] v) | none => L.set i (.st fs)) = L.set i (.st (fs.set f v)) := by
  have : (L.set i (.st fs))[i]? = some (.st fs) := by simp [h]
  rw [this]
  simp only [setP, hx]
  cases x <;> simp [List.set_set]
end

def markPer (k : Nat) : Per := ⟨mText k, (k : Int) + 1, (k : Int) + 2, (k : Int) + 3, (k : Int) + 4, (k : Int) + 5⟩
def markPers (k : Nat) : Nat → List Per
  | 0 => []
  | n + 1 => markPers k n ++ [markPer (k + 6 * n)]
theorem markPers_len (k : Nat) : ∀ n, (markPers k n).length = n
  | 0 => rfl
  | n + 1 => by simp [markPers, markPers_len k n]
def rowPM (k : Nat) (ps : List Per) (i : Nat) : List LV := (markPers k i ++ ps.drop i).map Per.lv
theorem rowPM_len {k : Nat} {ps : List Per} {i : Nat} (h : i ≤ ps.length) : (rowPM k ps i).length = ps.length := by simp [rowPM, markPers_len]; omega
theorem rowPM_get {k : Nat} {ps : List Per} {i : Nat} (h : i < ps.length) : (rowPM k ps i)[i]? = some ps[i].lv := by
  unfold rowPM
  rw [List.getElem?_map, List.getElem?_append_right (by rw [markPers_len]; exact Nat.le_refl _), markPers_len, Nat.sub_self, List.getElem?_drop, Nat.add_zero, List.getElem?_eq_getElem h]
  rfl
theorem rowPM_set {k : Nat} {ps : List Per} {i : Nat} (h : i < ps.length) : (rowPM k ps i).set i (markPer (k + 6 * i)).lv = rowPM k ps (i + 1) := by
  unfold rowPM
  rw [List.drop_eq_getElem_cons h, List.map_append, List.map_cons, List.set_append_right _ _ (by simp [markPers_len])]
  simp [markPers, markPers_len]

theorem markPersonS_spec (ps : List Per) (n : Nat) (hn : n = (ps.map Per.lv).length) (k : Nat) (h1 : k + 6 * ps.length ≤ 2305843009213693952) :
    HSpec env.P 44 [.hs 0 n, .int .i64 (k : Int)] [.arr 85 6 (ps.map Per.lv)] (.int .i64 ((k + 6 * ps.length : Nat) : Int)) [.arr 85 6 ((markPers k ps.length).map Per.lv)] := by
  subst hn
  refine HSpec_of_code (E := env.x [] 1) env_ok.x (fn := Tryz.f44) Tryz.func44 rfl Tryz.call44 _ _ _ _ ?_
  ((repeat ((conv => whnf); first | refine brT ?_ | refine brF ?_)); conv => whnf)
  refine loop_rule (α := Nat) (fun i => [(5, .int .i64 (i : Int)), (1, .int .i64 ((k + 6 * i : Nat) : Int)), (0, .hs 0 (rowPM k ps i).length)]) (fun i => [.arr 85 6 (rowPM k ps i)]) (fun i => ps.length - i) (fun i => i ≤ ps.length) 0 (Nat.zero_le _) ?_ ?_
  · have e0 : ps.map Per.lv = rowPM k ps 0 := by simp [rowPM, markPers]
    have e1 : LV.hs 0 (ps.map Per.lv).length = LV.hs 0 (rowPM k ps 0).length := by rw [e0]
    refine ⟨?_, ⟨congrArg (Blk.arr 85 6) e0, trivial⟩, rfl, rfl⟩
    ((repeat ((conv => whnf); first | refine ⟨e1, ?_⟩ | refine ⟨rfl, ?_⟩)); trivial)
  intro i hi
  have hl := rowPM_len (k := k) hi
  ((repeat ((conv => whnf); first | refine brT ?_ | refine brF ?_)); conv => whnf)
  refine ⟨rfl, fun hm => ?_⟩
  have hm' : ps.length ≤ Go.maxLen := by rw [← hl]; exact hm
  ((repeat ((conv => whnf); first | refine brT ?_ | refine brF ?_)); conv => whnf)
  (refine ⟨fun g1 => ?_, fun g1 => ?_⟩ <;> rw [g1])
  · have hlt : i < ps.length := by rw [ltI_t] at g1; omega
    have e := step_i hlt hm'
    have hiL : i < (rowPM k ps i).length := by omega
    have hg := rowPM_get (k := k) hlt
    have hset := rowPM_set (k := k) hlt
    have w0 : IntKind.i64.wrap (((k + 6 * i : Nat) : Int) + 1) = ((k + 6 * i : Nat) : Int) + 1 := wrap64 (by omega) (by omega)
    have w1 : IntKind.i64.wrap (((k + 6 * i : Nat) : Int) + 1 + 1) = ((k + 6 * i : Nat) : Int) + 2 := by rw [wrap64 (by omega) (by omega)]; omega
    have w2 : IntKind.i64.wrap (((k + 6 * i : Nat) : Int) + 2 + 1) = ((k + 6 * i : Nat) : Int) + 3 := by rw [wrap64 (by omega) (by omega)]; omega
    have w3 : IntKind.i64.wrap (((k + 6 * i : Nat) : Int) + 3 + 1) = ((k + 6 * i : Nat) : Int) + 4 := by rw [wrap64 (by omega) (by omega)]; omega
    have w4 : IntKind.i64.wrap (((k + 6 * i : Nat) : Int) + 4 + 1) = ((k + 6 * i : Nat) : Int) + 5 := by rw [wrap64 (by omega) (by omega)]; omega
    have w5 : IntKind.i64.wrap (((k + 6 * i : Nat) : Int) + 5 + 1) = ((k + 6 * (i + 1) : Nat) : Int) := by rw [wrap64 (by omega) (by omega)]; omega
    have hlen : ∀ x : LV, (rowPM k ps i).length = ((rowPM k ps i).set i x).length := fun x => by simp
    generalize ps[i] = p at hg hset
    generalize hK : ((k + 6 * i : Nat) : Int) = kk at w0 w1 w2 w3 w4 w5 ⊢
    generalize hN : mText (k + 6 * i) = nm
    have hmt := markText_spec (k + 6 * i) (by omega)
    rw [hK, hN] at hmt
    have hfin : (rowPM k ps i).set i (.st [.str nm, .int .i64 (kk + 1), .int .i64 (kk + 2), .int .i64 (kk + 3), .int .i64 (kk + 4), .int .i64 (kk + 5)]) = rowPM k ps (i + 1) := by
      rw [← hset]; unfold markPer Per.lv; rw [hK, hN]
    generalize rowPM k ps i = L at hl hm hiL hg hlen hfin g1 ⊢
    have hgp : getP (.st L) [i] = some (.st [LV.str p.name, LV.int .i64 p.sex, LV.int .i64 p.father, LV.int .i64 p.mother, LV.int .i64 p.born, LV.int .i64 p.died]) := by simp [getP, hg, Per.lv]
    have hgp0 : getP (.st L) [i, 0] = some (.str p.name) := by simp [getP, hg, Per.lv]
    ((repeat ((conv => whnf); first | refine brT ?_ | refine brF ?_)); conv => whnf)
    refine ⟨_, hmt, ?_⟩
    ((repeat ((conv => whnf); first | refine brT ?_ | refine brF ?_)); conv => whnf)
    refine ⟨rfl, rfl, i, rfl, hiL, ?_⟩
    ((repeat ((conv => whnf); first | refine brT ?_ | refine brF ?_)); conv => whnf)
    refine ⟨rfl, by simp, [LV.str p.name, LV.int .i64 p.sex, LV.int .i64 p.father, LV.int .i64 p.mother, LV.int .i64 p.born, LV.int .i64 p.died], hgp, rfl, by simp, ?_⟩
    ((repeat ((conv => whnf); first | refine brT ?_ | refine brF ?_)); conv => whnf)
    refine ⟨rfl, i, [0], .str p.name, rfl, hgp0, rfl, rfl, rfl, L.set i (.st [.str nm, .int .i64 p.sex, .int .i64 p.father, .int .i64 p.mother, .int .i64 p.born, .int .i64 p.died]), by rw [hg]; rfl, ?_⟩
    ((repeat ((conv => whnf); first | refine brT ?_ | refine brF ?_)); conv => whnf)
    rw [w0]
    refine ⟨hlen _, rfl, i, rfl, by simpa using hiL, ?_⟩
    ((repeat ((conv => whnf); first | refine brT ?_ | refine brF ?_)); conv => whnf)
    refine ⟨hlen _, by simp, _, fw_get hiL _, rfl, by simp, ?_⟩
    ((repeat ((conv => whnf); first | refine brT ?_ | refine brF ?_)); conv => whnf)
    refine ⟨hlen _, i, [1], _, rfl, fw_get2 hiL rfl, rfl, rfl, rfl, _, fw_set hiL rfl (.int .i64 (kk + 1)), ?_⟩
    ((repeat ((conv => whnf); first | refine brT ?_ | refine brF ?_)); conv => whnf)
    rw [w1]
    refine ⟨hlen _, rfl, i, rfl, by simpa using hiL, ?_⟩
    ((repeat ((conv => whnf); first | refine brT ?_ | refine brF ?_)); conv => whnf)
    refine ⟨hlen _, by simp, _, fw_get hiL _, rfl, by simp, ?_⟩
    ((repeat ((conv => whnf); first | refine brT ?_ | refine brF ?_)); conv => whnf)
    refine ⟨hlen _, i, [2], _, rfl, fw_get2 hiL rfl, rfl, rfl, rfl, _, fw_set hiL rfl (.int .i64 (kk + 2)), ?_⟩
    ((repeat ((conv => whnf); first | refine brT ?_ | refine brF ?_)); conv => whnf)
    rw [w2]
    refine ⟨hlen _, rfl, i, rfl, by simpa using hiL, ?_⟩
    ((repeat ((conv => whnf); first | refine brT ?_ | refine brF ?_)); conv => whnf)
    refine ⟨hlen _, by simp, _, fw_get hiL _, rfl, by simp, ?_⟩
    ((repeat ((conv => whnf); first | refine brT ?_ | refine brF ?_)); conv => whnf)
    refine ⟨hlen _, i, [3], _, rfl, fw_get2 hiL rfl, rfl, rfl, rfl, _, fw_set hiL rfl (.int .i64 (kk + 3)), ?_⟩
    ((repeat ((conv => whnf); first | refine brT ?_ | refine brF ?_)); conv => whnf)
    rw [w3]
    refine ⟨hlen _, rfl, i, rfl, by simpa using hiL, ?_⟩
    ((repeat ((conv => whnf); first | refine brT ?_ | refine brF ?_)); conv => whnf)
    refine ⟨hlen _, by simp, _, fw_get hiL _, rfl, by simp, ?_⟩
    ((repeat ((conv => whnf); first | refine brT ?_ | refine brF ?_)); conv => whnf)
    refine ⟨hlen _, i, [4], _, rfl, fw_get2 hiL rfl, rfl, rfl, rfl, _, fw_set hiL rfl (.int .i64 (kk + 4)), ?_⟩
    ((repeat ((conv => whnf); first | refine brT ?_ | refine brF ?_)); conv => whnf)
    rw [w4]
    refine ⟨hlen _, rfl, i, rfl, by simpa using hiL, ?_⟩
    ((repeat ((conv => whnf); first | refine brT ?_ | refine brF ?_)); conv => whnf)
    refine ⟨hlen _, by simp, _, fw_get hiL _, rfl, by simp, ?_⟩
    ((repeat ((conv => whnf); first | refine brT ?_ | refine brF ?_)); conv => whnf)
    refine ⟨hlen _, i, [5], _, rfl, fw_get2 hiL rfl, rfl, rfl, rfl, _, fw_set hiL rfl (.int .i64 (kk + 5)), ?_⟩
    ((repeat ((conv => whnf); first | refine brT ?_ | refine brF ?_)); conv => whnf)
    have e5 : LV.hs 0 L.length = LV.hs 0 (rowPM k ps (i + 1)).length := by rw [hl, rowPM_len (by omega)]
    have e6 : LV.int .i64 (IntKind.i64.wrap (kk + 5 + 1)) = LV.int .i64 ((k + 6 * (i + 1) : Nat) : Int) := by rw [w5]
    refine round_end (i + 1) hlt (by omega) ⟨?_, ⟨congrArg (Blk.arr 85 6) hfin, trivial⟩, rfl, rfl⟩
    repeat ((conv => whnf); first | refine ⟨e, ?_⟩ | refine ⟨e6, ?_⟩ | refine ⟨e5, ?_⟩ | refine ⟨rfl, ?_⟩)
    trivial
  · have h3 : i = ps.length := by rw [ltI_f] at g1; omega
    subst h3
    ((repeat ((conv => whnf); first | refine brT ?_ | refine brF ?_)); conv => whnf)
    exact ⟨[.int .i64 ((k + 6 * ps.length : Nat) : Int)], rfl, rfl, .inl ⟨⟨rfl, trivial⟩, ⟨by simp [rowPM], trivial⟩, rfl, rfl⟩⟩
end Go.Proofs.YtdhmnojnkgmmnaaGreat


namespace Go.Proofs.YtdhmnojnkgmmnaaGreat
open Go.Lg
set_option maxHeartbeats 1600000
set_option maxRecDepth 10000
set_option linter.unusedVariables false
set_option linter.unusedSimpArgs false

def Pr.eq (p q : Pr) : Bool := eqI p.a q.a && eqI p.b q.b
theorem Pr.eq_refl (p : Pr) : p.eq p = true := by simp [Pr.eq, eqI_refl]
theorem eqPairS_refl (ps : List Pr) : eqList Pr.eq ps ps = true := eqList_refl Pr.eq_refl ps

def markPrs (k : Nat) : Nat → List Pr
  | 0 => []
  | n + 1 => markPrs k n ++ [⟨((k + 2 * n : Nat) : Int), ((k + 2 * n : Nat) : Int) + 1⟩]
theorem markPrs_len (k : Nat) : ∀ n, (markPrs k n).length = n
  | 0 => rfl
  | n + 1 => by simp [markPrs, markPrs_len k n]
def rowQM (k : Nat) (ps : List Pr) (i : Nat) : List LV := (markPrs k i ++ ps.drop i).map Pr.lv
theorem rowQM_len {k : Nat} {ps : List Pr} {i : Nat} (h : i ≤ ps.length) : (rowQM k ps i).length = ps.length := by simp [rowQM, markPrs_len]; omega
theorem rowQM_get {k : Nat} {ps : List Pr} {i : Nat} (h : i < ps.length) : (rowQM k ps i)[i]? = some ps[i].lv := by
  unfold rowQM
  rw [List.getElem?_map, List.getElem?_append_right (by rw [markPrs_len]; exact Nat.le_refl _), markPrs_len, Nat.sub_self, List.getElem?_drop, Nat.add_zero, List.getElem?_eq_getElem h]
  rfl
theorem rowQM_set {k : Nat} {ps : List Pr} {i : Nat} (h : i < ps.length) : (rowQM k ps i).set i (Pr.lv ⟨((k + 2 * i : Nat) : Int), ((k + 2 * i : Nat) : Int) + 1⟩) = rowQM k ps (i + 1) := by
  unfold rowQM
  rw [List.drop_eq_getElem_cons h, List.map_append, List.map_cons, List.set_append_right _ _ (by simp [markPrs_len])]
  simp [markPrs, markPrs_len]

end Go.Proofs.YtdhmnojnkgmmnaaGreat

namespace Go.Proofs.YtdhmnojnkgmmnaaGreat
open Go.Lg
set_option maxHeartbeats 1600000
set_option maxRecDepth 10000
set_option linter.unusedVariables false
set_option linter.unusedSimpArgs false

/-! ### Wrappers of the model -/
/-- A relation made, handed out with its rows frozen. -/
theorem rel_f {F : Nat} {args : List LV} {N : Nat} {R : List (List Int)} (h : HSpec env.P F args [] (relHS N 0 (R.map rowOw).length) [.tree 31 1 (R.map rowOw)]) : FSpec env.P F args (.st [.int .i64 (N : Int), .own 31 1 (R.map rowSl)]) :=
  FSpec_of_tree h (by
    simp only [relHS, exW, exsW]
    exact ⟨trivial, trivial, by rw [dms_rows]; simp, rfl, rfl, dms_rows _, by simp⟩)

/-! ### Equality -/
end Go.Proofs.YtdhmnojnkgmmnaaGreat

namespace Go.Proofs.YtdhmnojnkgmmnaaGreat
open Go.Lg
set_option maxHeartbeats 1600000
set_option maxRecDepth 10000
set_option linter.unusedVariables false
set_option linter.unusedSimpArgs false

end Go.Proofs.YtdhmnojnkgmmnaaGreat

namespace Go.Proofs.YtdhmnojnkgmmnaaGreat
open Go.Lg
set_option maxHeartbeats 1600000
set_option maxRecDepth 10000
set_option linter.unusedVariables false
set_option linter.unusedSimpArgs false

end Go.Proofs.YtdhmnojnkgmmnaaGreat

namespace Go.Proofs.YtdhmnojnkgmmnaaGreat
open Go.Lg
set_option maxHeartbeats 1600000
set_option maxRecDepth 10000
set_option linter.unusedVariables false
set_option linter.unusedSimpArgs false

end Go.Proofs.YtdhmnojnkgmmnaaGreat

namespace Go.Proofs.YtdhmnojnkgmmnaaGreat
open Go.Lg
set_option maxHeartbeats 1600000
set_option maxRecDepth 10000
set_option linter.unusedVariables false
set_option linter.unusedSimpArgs false

theorem prs_of : ∀ (xs : List LV), (∀ x ∈ xs, hasSh (.st [.int .i64, .int .i64]) x) → ∃ ps : List Pr, xs = ps.map Pr.lv
  | [], _ => ⟨[], rfl⟩
  | x :: xs, h => by
    obtain ⟨ps, rfl⟩ := prs_of xs fun y hy => h y (by simp [hy])
    have h1 := h x (by simp)
    simp only [hasSh] at h1
    obtain ⟨ys, rfl, h2⟩ := h1
    match ys, h2 with
    | [a, b], h2 =>
      simp only [hasShs, hasSh] at h2
      obtain ⟨⟨a, rfl⟩, ⟨b, rfl⟩, _⟩ := h2
      exact ⟨⟨a, b⟩ :: ps, rfl⟩
    | [], h2 => simp [hasShs] at h2
    | [_], h2 => simp [hasShs] at h2
    | _ :: _ :: _ :: _, h2 => simp [hasShs] at h2
end Go.Proofs.YtdhmnojnkgmmnaaGreat
