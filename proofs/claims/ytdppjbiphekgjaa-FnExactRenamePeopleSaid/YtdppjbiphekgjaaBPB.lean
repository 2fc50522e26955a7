/- Contracts of functions of the program and of its model, told over readings. -/
import Derived.Test.YtdppjbiphekgjaaBPA
import Derived.Test.YtdppjbiphekgjaaBLgWS
namespace Go.Proofs.Ytdppjbiphekgjaa
open Go.Lg
set_option maxHeartbeats 1600000
set_option maxRecDepth 10000
set_option linter.unusedVariables false
set_option linter.unusedSimpArgs false

/-- How many integers the rows have. -/
def tot (rows : List (List Int)) : Nat := (rows.map List.length).sum
theorem tot_cons (r : List Int) (rs : List (List Int)) : tot (r :: rs) = r.length + tot rs := by simp [tot]
def markRows : Int → List (List Int) → List (List Int)
  | _, [] => []
  | k, r :: rs => marks k r.length :: markRows (k + r.length) rs
theorem markRows_len : ∀ (k : Int) (rows : List (List Int)), (markRows k rows).length = rows.length
  | _, [] => rfl
  | k, r :: rs => by simp [markRows, markRows_len _ rs]
theorem markRows_snoc : ∀ (k : Int) (rs : List (List Int)) (r : List Int), markRows k (rs ++ [r]) = markRows k rs ++ [marks (k + tot rs) r.length]
  | k, [], r => by simp [markRows, tot]
  | k, x :: xs, r => by
    simp only [List.cons_append, markRows, markRows_snoc _ xs r, tot_cons]
    congr 3; congr 1; omega
theorem tot_snoc (rs : List (List Int)) (r : List Int) : tot (rs ++ [r]) = tot rs + r.length := by simp [tot]

/-- The first i rows marked. -/
def markT (k : Int) (rows : List (List Int)) (i : Nat) : List (List Int) := markRows k (rows.take i) ++ rows.drop i
theorem markT_len {k : Int} {rows : List (List Int)} {i : Nat} (h : i ≤ rows.length) : (markT k rows i).length = rows.length := by simp [markT, markRows_len]; omega
theorem markT_zero (k : Int) (rows : List (List Int)) : markT k rows 0 = rows := by simp [markT, markRows]
theorem markT_all (k : Int) (rows : List (List Int)) : markT k rows rows.length = markRows k rows := by simp [markT]
theorem markT_get {k : Int} {rows : List (List Int)} {i : Nat} (h : i < rows.length) : (markT k rows i)[i]? = some rows[i] := by
  unfold markT
  have hm : (markRows k (rows.take i)).length = i := by rw [markRows_len, List.length_take]; omega
  rw [List.getElem?_append_right (by omega), hm]
  simp [h]
theorem markT_set {k : Int} {rows : List (List Int)} {i : Nat} (h : i < rows.length) : (markT k rows i).set i (marks (k + tot (rows.take i)) rows[i].length) = markT k rows (i + 1) := by
  unfold markT
  have e : rows.take (i + 1) = rows.take i ++ [rows[i]] := by rw [List.take_succ_eq_append_getElem h]
  have hm : (markRows k (rows.take i)).length = i := by rw [markRows_len, List.length_take]; omega
  rw [e, markRows_snoc, List.drop_eq_getElem_cons h, List.set_append_right _ _ (by omega), hm, Nat.sub_self, List.set_cons_zero, List.append_assoc]
  rfl
theorem tot_take_succ {rows : List (List Int)} {i : Nat} (h : i < rows.length) : tot (rows.take (i + 1)) = tot (rows.take i) + rows[i].length := by
  rw [List.take_succ_eq_append_getElem h, tot_snoc]
theorem tot_take_le : ∀ (rows : List (List Int)) (i : Nat), tot (rows.take i) ≤ tot rows
  | [], i => by simp [tot]
  | r :: rs, 0 => by simp [tot]
  | r :: rs, i + 1 => by simp only [List.take_succ_cons, tot_cons]; have := tot_take_le rs i; omega

theorem markIntSS_spec (rows : List (List Int)) (n : Nat) (hn : n = (rows.map rowOw).length) (k : Int) (h0 : 0 ≤ k) (h1 : k + tot rows ≤ 4611686018427387904) :
    HSpec env.P 73 [.hs 0 n, .int .i64 k] [.tree 58 1 (rows.map rowOw)] (.int .i64 (k + tot rows)) [.tree 58 1 ((markRows k rows).map rowOw)] := by
  subst hn
  refine HSpec_of_code (E := env.x [35] 1) env_ok.x (fn := Try.f73) Try.func73 rfl Try.call73 _ _ _ _ ?_
  ((repeat ((conv => whnf); first | refine brT ?_ | refine brF ?_)); conv => whnf)
  refine loop_rule (α := Nat) (fun i => [(5, .int .i64 (i : Int)), (1, .int .i64 (k + tot (rows.take i))), (0, .hs 0 ((markT k rows i).map rowOw).length)]) (fun i => [.tree 58 1 ((markT k rows i).map rowOw)]) (fun i => rows.length - i) (fun i => i ≤ rows.length) 0 (Nat.zero_le _) ?_ ?_
  · have e1 : LV.hs 0 (rows.map rowOw).length = LV.hs 0 ((markT k rows 0).map rowOw).length := by rw [markT_zero]
    have e2 : LV.int .i64 k = LV.int .i64 (k + tot (rows.take 0)) := by simp [tot]
    refine ⟨?_, ⟨congrArg (Blk.tree 58 1) (by rw [markT_zero]), trivial⟩, rfl, rfl⟩
    repeat ((conv => whnf); first | refine ⟨e1, ?_⟩ | refine ⟨e2, ?_⟩ | refine ⟨rfl, ?_⟩)
    trivial
  intro i hi
  have hl : ((markT k rows i).map rowOw).length = rows.length := by rw [List.length_map, markT_len hi]
  ((repeat ((conv => whnf); first | refine brT ?_ | refine brF ?_)); conv => whnf)
  refine ⟨rfl, fun hm => ?_⟩
  have hm' : rows.length ≤ Go.maxLen := by rw [← hl]; exact hm
  ((repeat ((conv => whnf); first | refine brT ?_ | refine brF ?_)); conv => whnf)
  (refine ⟨fun g1 => ?_, fun g1 => ?_⟩ <;> rw [g1])
  · have hlt : i < rows.length := by rw [ltI_t] at g1; omega
    have ht := tot_take_succ hlt
    have hle := tot_take_le rows (i + 1)
    have e := step_i hlt hm'
    have e5 : LV.hs 0 ((markT k rows i).map rowOw).length = LV.hs 0 ((markT k rows (i + 1)).map rowOw).length := by rw [hl, List.length_map, markT_len (by omega)]
    have hg : ((markT k rows i).map rowOw)[i]? = some (rowOw rows[i]) := by rw [List.getElem?_map, markT_get hlt]; rfl
    ((repeat ((conv => whnf); first | refine brT ?_ | refine brF ?_)); conv => whnf)
    refine ⟨rfl, rfl, i, rfl, by omega, ?_⟩
    ((repeat ((conv => whnf); first | refine brT ?_ | refine brF ?_)); conv => whnf)
    refine ⟨rfl, rowOw rows[i], rowOw rows[i], hg, rfl, ?_⟩
    ((repeat ((conv => whnf); first | refine brT ?_ | refine brF ?_)); conv => whnf)
    refine ⟨[1], _, _, _, _, markIntS_spec rows[i] _ rfl (k + tot (rows.take i)) (by omega) (by omega), rfl, rfl, rfl, trivial, ?_⟩
    ((repeat ((conv => whnf); first | refine brT ?_ | refine brF ?_)); conv => whnf)
    have e4 : LV.int .i64 (k + tot (rows.take i) + rows[i].length) = LV.int .i64 (k + tot (rows.take (i + 1))) := by congr 1; omega
    have e6 : ((markT k rows i).map rowOw).set i (rowOw (marks (k + tot (rows.take i)) rows[i].length)) = (markT k rows (i + 1)).map rowOw := by rw [← markT_set hlt, List.map_set]
    refine round_endR [.old 0] (i + 1) hlt (by omega) ⟨?_, ⟨by simp [marks_len], rfl, congrArg (Blk.tree 58 1) e6, trivial⟩, rfl⟩
    repeat ((conv => whnf); first | refine ⟨rfl, e, ?_⟩ | refine ⟨rfl, e4, ?_⟩ | refine ⟨rfl, e5, ?_⟩ | refine ⟨rfl, rfl, ?_⟩)
    trivial
  · have h3 : i = rows.length := by rw [ltI_f] at g1; omega
    subst h3
    ((repeat ((conv => whnf); first | refine brT ?_ | refine brF ?_)); conv => whnf)
    exact ⟨[.int .i64 (k + tot (rows.take rows.length))], by simp [tupOf], rfl, .inl ⟨⟨rfl, trivial⟩, ⟨congrArg (Blk.tree 58 1) (by rw [markT_all]), trivial⟩, rfl, rfl⟩⟩

theorem markRows_get : ∀ (k : Int) (rows : List (List Int)) (i : Nat) (h : i < rows.length), (markRows k rows)[i]? = some (marks (k + tot (rows.take i)) rows[i].length)
  | k, r :: rs, 0, _ => by simp [markRows, tot]
  | k, r :: rs, i + 1, h => by
    simp only [markRows, List.getElem?_cons_succ, List.take_succ_cons, tot_cons, List.getElem_cons_succ]
    rw [markRows_get (k + r.length) rs i (by simpa using h)]
    congr 2; omega

theorem heldIntSS_spec (rows : List (List Int)) (k : Int) (h0 : 0 ≤ k) (h1 : k + tot rows ≤ 4611686018427387904) :
    FSpec env.P 74 [.sl ((markRows k rows).map rowSl), .int .i64 k] (.int .i64 (k + tot rows)) := by
  refine FSpec_of_code env_ok (fn := Try.f74) Try.func74 rfl Try.call74 _ _ ?_
  have hl : ((markRows k rows).map rowSl).length = rows.length := by simp [markRows_len]
  ((repeat ((conv => whnf); first | refine brT ?_ | refine brF ?_)); conv => whnf)
  refine loop_rule (α := Nat) (fun i => [(5, .int .i64 (i : Int)), (1, .int .i64 (k + tot (rows.take i)))]) (fun i => []) (fun i => rows.length - i) (fun i => i ≤ rows.length) 0 (Nat.zero_le _) ?_ ?_
  · have e2 : LV.int .i64 k = LV.int .i64 (k + tot (rows.take 0)) := by simp [tot]
    refine ⟨?_, trivial, rfl, rfl⟩
    ((repeat ((conv => whnf); first | refine ⟨e2, ?_⟩ | refine ⟨rfl, ?_⟩)); trivial)
  intro i hi
  ((repeat ((conv => whnf); first | refine brT ?_ | refine brF ?_)); conv => whnf)
  intro hm
  rw [hl] at hm
  ((repeat ((conv => whnf); first | refine brT ?_ | refine brF ?_)); conv => whnf)
  (refine ⟨fun g1 => ?_, fun g1 => ?_⟩ <;> rw [g1])
  · have hlt : i < rows.length := by rw [ltI_t] at g1; omega
    have ht := tot_take_succ hlt
    have hle := tot_take_le rows (i + 1)
    have e := step_i hlt hm
    have e4 : LV.int .i64 (k + tot (rows.take i) + rows[i].length) = LV.int .i64 (k + tot (rows.take (i + 1))) := by congr 1; omega
    have hg : ((markRows k rows).map rowSl)[i]? = some (rowSl (marks (k + tot (rows.take i)) rows[i].length)) := by
      rw [List.getElem?_map, markRows_get k rows i hlt]; rfl
    ((repeat ((conv => whnf); first | refine brT ?_ | refine brF ?_)); conv => whnf)
    refine ⟨i, _, rfl, hg, rfl, ?_⟩
    ((repeat ((conv => whnf); first | refine brT ?_ | refine brF ?_)); conv => whnf)
    refine ⟨_, heldIntS_spec (k + tot (rows.take i)) rows[i].length (by omega) (by omega), ?_⟩
    ((repeat ((conv => whnf); first | refine brT ?_ | refine brF ?_)); conv => whnf)
    rw [show ltI (k + (tot (rows.take i) : Int) + (rows[i].length : Int)) 0 = false by rw [ltI_f]; omega]
    ((repeat ((conv => whnf); first | refine brT ?_ | refine brF ?_)); conv => whnf)
    refine round_end (i + 1) hlt (by omega) ⟨?_, trivial, rfl, rfl⟩
    repeat ((conv => whnf); first | refine ⟨e, ?_⟩ | refine ⟨e4, ?_⟩ | refine ⟨rfl, ?_⟩)
    trivial
  · have h3 : i = rows.length := by rw [ltI_f] at g1; omega
    subst h3
    ((repeat ((conv => whnf); first | refine brT ?_ | refine brF ?_)); conv => whnf)
    exact ⟨rfl, by simp, List.nodup_nil⟩

theorem markRelation_spec (n : Int) (rows : List (List Int)) (m : Nat) (hm : m = (rows.map rowOw).length) (k : Int) (h0 : 0 ≤ k) (h1 : k + tot rows ≤ 4611686018427387904) :
    HSpec env.P 20 [relHS n 0 m, .int .i64 k] [.tree 58 1 (rows.map rowOw)] (.int .i64 (k + tot rows)) [.tree 58 1 ((markRows k rows).map rowOw)] := by
  refine HSpec_of_code (E := env.x [73] 1) env_ok.x (fn := Try.f20) Try.func20 rfl Try.call20 _ _ _ _ ?_
  ((repeat ((conv => whnf); first | refine brT ?_ | refine brF ?_)); conv => whnf)
  refine ⟨[0], _, _, _, _, markIntSS_spec rows m hm k h0 h1, rfl, rfl, rfl, trivial, ?_⟩
  ((repeat ((conv => whnf); first | refine brT ?_ | refine brF ?_)); conv => whnf)
  exact ⟨[.int .i64 (k + tot rows)], rfl, rfl, .inl ⟨⟨rfl, trivial⟩, ⟨rfl, trivial⟩, rfl, rfl⟩⟩
theorem heldRelation_spec (n : Int) (rows : List (List Int)) (k : Int) (h0 : 0 ≤ k) (h1 : k + tot rows ≤ 4611686018427387904) :
    FSpec env.P 21 [relLV n (markRows k rows), .int .i64 k] (.int .i64 (k + tot rows)) := by
  refine FSpec_of_code env_ok (fn := Try.f21) Try.func21 rfl Try.call21 _ _ ?_
  ((repeat ((conv => whnf); first | refine brT ?_ | refine brF ?_)); conv => whnf)
  refine ⟨_, heldIntSS_spec rows k h0 h1, ?_⟩
  ((repeat ((conv => whnf); first | refine brT ?_ | refine brF ?_)); conv => whnf)
  rw [show ltI (k + (tot rows : Int)) 0 = false by rw [ltI_f]; omega]
  ((repeat ((conv => whnf); first | refine brT ?_ | refine brF ?_)); conv => whnf)
  exact ⟨rfl, rfl, List.nodup_nil⟩
end Go.Proofs.Ytdppjbiphekgjaa

namespace Go.Proofs.Ytdppjbiphekgjaa
open Go.Lg
set_option maxHeartbeats 1600000
set_option maxRecDepth 10000
set_option linter.unusedVariables false
set_option linter.unusedSimpArgs false

/-! ### Bits -/
theorem u64_wrap {n : Nat} (h : n < 2 ^ 64) : IntKind.u64.wrap (n : Int) = n := by
  unfold IntKind.wrap
  simp [IntKind.signed, IntKind.bits]
  omega
theorem ofInt_nat (n : Nat) : BitVec.ofInt 64 (n : Int) = BitVec.ofNat 64 n := by simp
theorem orI_nat {a b : Nat} (ha : a < 2 ^ 64) (hb : b < 2 ^ 64) : Go.Lg.orI .u64 (a : Int) (b : Int) = ((a ||| b : Nat) : Int) := by
  unfold Go.Lg.orI
  show IntKind.u64.wrap ((BitVec.ofInt 64 (a : Int) ||| BitVec.ofInt 64 (b : Int)).toNat) = _
  rw [ofInt_nat, ofInt_nat, BitVec.toNat_or, BitVec.toNat_ofNat, BitVec.toNat_ofNat, Nat.mod_eq_of_lt ha, Nat.mod_eq_of_lt hb]
  exact u64_wrap (Nat.or_lt_two_pow ha hb)
theorem andI_nat {a b : Nat} (ha : a < 2 ^ 64) (hb : b < 2 ^ 64) : andI .u64 (a : Int) (b : Int) = ((a &&& b : Nat) : Int) := by
  unfold andI
  show IntKind.u64.wrap ((BitVec.ofInt 64 (a : Int) &&& BitVec.ofInt 64 (b : Int)).toNat) = _
  rw [ofInt_nat, ofInt_nat, BitVec.toNat_and, BitVec.toNat_ofNat, BitVec.toNat_ofNat, Nat.mod_eq_of_lt ha, Nat.mod_eq_of_lt hb]
  exact u64_wrap (Nat.and_lt_two_pow a hb)
/-- a but not b, in 64 bits -/
def lessN (a b : Nat) : Nat := (BitVec.ofNat 64 a &&& ~~~BitVec.ofNat 64 b).toNat
theorem lessN_lt (a b : Nat) : lessN a b < 2 ^ 64 := (BitVec.ofNat 64 a &&& ~~~BitVec.ofNat 64 b).isLt
theorem andNotI_nat (a b : Nat) : andNotI .u64 (a : Int) (b : Int) = (lessN a b : Int) := by
  unfold andNotI
  show IntKind.u64.wrap ((BitVec.ofInt 64 (a : Int) &&& ~~~BitVec.ofInt 64 (b : Int)).toNat) = _
  rw [ofInt_nat, ofInt_nat]
  exact u64_wrap (lessN_lt a b)
theorem lessN_bit {a b i : Nat} (ha : a < 2 ^ 64) (hi : i < 64) : (lessN a b).testBit i = (a.testBit i && !b.testBit i) := by
  unfold lessN
  rw [BitVec.testBit_toNat, BitVec.getLsbD_and, BitVec.getLsbD_not, BitVec.getLsbD_ofNat, BitVec.getLsbD_ofNat]
  simp [hi]
theorem shlI_one {b : Int} (h0 : 0 ≤ b) (h1 : b < 64) : shlI .u64 1 b = ((2 ^ b.toNat : Nat) : Int) := by
  unfold shlI
  have hm : min b.toNat IntKind.u64.bits = b.toNat := by
    have : b.toNat < 64 := by omega
    simp [IntKind.bits]; omega
  rw [hm, Int.one_mul]
  have hlt : 2 ^ b.toNat < 2 ^ 64 := Nat.pow_lt_pow_right (by omega) (by omega)
  have := u64_wrap hlt
  rw [← this]
  simp

def uLV (s : Nat) : LV := .int .u64 (s : Int)
/-- The set of a row. -/
def setFrom : Nat → List Int → Nat
  | s, [] => s
  | s, b :: bs => setFrom (s ||| 2 ^ b.toNat) bs
def setN (row : List Int) : Nat := setFrom 0 row
def inSize (row : List Int) : Prop := ∀ b ∈ row, 0 ≤ b ∧ b < 40
theorem two_lt {b : Nat} (h : b < 64) : 2 ^ b < 2 ^ 64 := Nat.pow_lt_pow_right (by omega) h
theorem setFrom_lt : ∀ (row : List Int) (s : Nat), s < 2 ^ 64 → inSize row → setFrom s row < 2 ^ 64
  | [], s, h, _ => h
  | b :: bs, s, h, hr => by
    have := hr b (by simp)
    exact setFrom_lt bs _ (Nat.or_lt_two_pow h (two_lt (by omega))) fun x hx => hr x (by simp [hx])
theorem setFrom_bit : ∀ (row : List Int) (s i : Nat), inSize row → (setFrom s row).testBit i = (s.testBit i || decide ((i : Int) ∈ row))
  | [], s, i, _ => by simp [setFrom]
  | b :: bs, s, i, hr => by
    have hb := hr b (by simp)
    simp only [setFrom]
    rw [setFrom_bit bs _ i fun x hx => hr x (by simp [hx]), Nat.testBit_or, Nat.testBit_two_pow]
    have : (b.toNat = i) ↔ ((i : Int) = b) := by omega
    simp only [List.mem_cons, this, Bool.or_assoc, Bool.decide_or]
theorem setN_bit {row : List Int} (h : inSize row) (i : Nat) : (setN row).testBit i = decide ((i : Int) ∈ row) := by unfold setN; rw [setFrom_bit row 0 i h]; simp
theorem setN_lt {row : List Int} (h : inSize row) : setN row < 2 ^ 64 := setFrom_lt row 0 (by decide) h

/-- (numberSet).has -/
def hasN (s : Nat) (b : Int) : Bool := s.testBit b.toNat
theorem has_bits {s : Nat} {b : Int} (hs : s < 2 ^ 64) (h0 : 0 ≤ b) (h1 : b < 64) : notB (eqI (andI .u64 (s : Int) (shlI .u64 1 b)) 0) = hasN s b := by
  rw [shlI_one h0 h1, andI_nat hs (two_lt (by omega))]
  unfold hasN notB eqI
  have hx : s &&& 2 ^ b.toNat = if s.testBit b.toNat then 2 ^ b.toNat else 0 := by
    apply Nat.eq_of_testBit_eq
    intro i
    rw [Nat.testBit_and, Nat.testBit_two_pow]
    by_cases hi : b.toNat = i
    · subst hi
      cases h : s.testBit b.toNat <;> simp [Nat.testBit_two_pow]
    · cases h : s.testBit b.toNat <;> simp [hi, Nat.testBit_two_pow]
  rw [hx]
  have hp : 0 < 2 ^ b.toNat := Nat.two_pow_pos _
  cases s.testBit b.toNat
  · simp
  · simp only [if_true]
    rw [Bool.not_eq_true', beq_eq_false_iff_ne]
    omega
theorem has_spec (s : Nat) (b : Int) (hs : s < 2 ^ 64) (h0 : 0 ≤ b) (h1 : b < 64) : FSpec env.P 85 [uLV s, .int .i64 b] (.bool (hasN s b)) := by
  refine FSpec_of_code env_ok (fn := Try.f85) Try.func85 rfl Try.call85 _ _ ?_
  ((repeat ((conv => whnf); first | refine brT ?_ | refine brF ?_)); conv => whnf)
  refine ⟨h0, ?_⟩
  ((repeat ((conv => whnf); first | refine brT ?_ | refine brF ?_)); conv => whnf)
  refine fin ?_
  exact has_bits hs h0 h1

/-- (numberSet).add of a variable -/
theorem add_box (s : Nat) (b : Int) (hs : s < 2 ^ 64) (h0 : 0 ≤ b) (h1 : b < 64) : HSpec env.P 136 [.hp 0 0 [], .int .i64 b] [.box (uLV s)] (.tup []) [.box (uLV (s ||| 2 ^ b.toNat))] := by
  refine HSpec_of_code (E := env.x [] 1) env_ok.x (fn := Try.f136) Try.func136 rfl Try.call136 _ _ _ _ ?_
  ((repeat ((conv => whnf); first | refine brT ?_ | refine brF ?_)); conv => whnf)
  refine ⟨true, by kernel_rfl, ?_⟩
  ((repeat ((conv => whnf); first | refine brT ?_ | refine brF ?_)); conv => whnf)
  refine ⟨h0, ?_⟩
  ((repeat ((conv => whnf); first | refine brT ?_ | refine brF ?_)); conv => whnf)
  have e : LV.int .u64 (Go.Lg.orI .u64 (s : Int) (shlI .u64 1 b)) = uLV (s ||| 2 ^ b.toNat) := by rw [shlI_one h0 h1, orI_nat hs (two_lt (by omega))]; rfl
  exact ⟨[], rfl, rfl, .inl ⟨trivial, ⟨congrArg Blk.box e, trivial⟩, rfl, rfl⟩⟩

theorem setOf_spec (row : List Int) (hr : inSize row) (hm : row.length ≤ Go.maxLen) : FSpec env.P 83 [rowSl row] (uLV (setN row)) := by
  refine FSpec_of_code (E := env.x [136] 0) env_ok.x (fn := Try.f83) Try.func83 rfl Try.call83 _ _ ?_
  ((repeat ((conv => whnf); first | refine brT ?_ | refine brF ?_)); conv => whnf)
  intro _
  rw [List.length_map]
  ((repeat ((conv => whnf); first | refine brT ?_ | refine brF ?_)); conv => whnf)
  refine loop_rule (α := Nat) (fun k => [(8, .int .i64 (k : Int))]) (fun k => [.box (uLV (setFrom 0 (row.take k)))]) (fun k => row.length - k) (fun k => k ≤ row.length) 0 (Nat.zero_le _) ?_ ?_
  · refine ⟨?_, ⟨rfl, trivial⟩, rfl, rfl⟩
    ((repeat ((conv => whnf); refine ⟨rfl, ?_⟩)); trivial)
  rintro k hk
  ((repeat ((conv => whnf); first | refine brT ?_ | refine brF ?_)); conv => whnf)
  (refine ⟨fun h1 => ?_, fun h1 => ?_⟩ <;> rw [h1])
  · have hlt : k < row.length := by rw [ltI_t] at h1; omega
    have hb := hr row[k] (List.getElem_mem hlt)
    have e := step_i hlt hm
    have hs : setFrom 0 (row.take k) < 2 ^ 64 := setFrom_lt _ _ (by decide) fun x hx => hr x (List.mem_of_mem_take hx)
    have es : setFrom 0 (row.take (k + 1)) = setFrom 0 (row.take k) ||| 2 ^ row[k].toNat := by
      rw [List.take_succ_eq_append_getElem hlt]
      generalize row.take k = l
      generalize (0 : Nat) = z
      induction l generalizing z with
      | nil => rfl
      | cons y ys ih => simp only [List.cons_append, setFrom]; exact ih _
    ((repeat ((conv => whnf); first | refine brT ?_ | refine brF ?_)); conv => whnf)
    refine ⟨k, intLV row[k], rfl, by simp [hlt], rfl, ?_⟩
    ((repeat ((conv => whnf); first | refine brT ?_ | refine brF ?_)); conv => whnf)
    refine ⟨[0], _, _, _, _, add_box _ row[k] hs hb.1 (by omega), rfl, rfl, rfl, trivial, ?_⟩
    ((repeat ((conv => whnf); first | refine brT ?_ | refine brF ?_)); conv => whnf)
    refine round_end (k + 1) hlt (by omega) ⟨?_, ⟨congrArg (fun s => Blk.box (uLV s)) es.symm, trivial⟩, rfl, rfl⟩
    ((repeat ((conv => whnf); first | refine ⟨e, ?_⟩ | refine ⟨rfl, ?_⟩)); trivial)
  · have h3 : k = row.length := by rw [ltI_f] at h1; omega
    subst h3
    ((repeat ((conv => whnf); first | refine brT ?_ | refine brF ?_)); conv => whnf)
    exact ⟨rfl, by rw [List.take_length]; rfl, List.nodup_nil⟩
end Go.Proofs.Ytdppjbiphekgjaa

namespace Go.Proofs.Ytdppjbiphekgjaa
open Go.Lg
set_option maxHeartbeats 1600000
set_option maxRecDepth 10000
set_option linter.unusedVariables false
set_option linter.unusedSimpArgs false

def rowFrom (size : Int) : Int → List Int → Bool
  | _, [] => true
  | last, b :: bs => match leI b last with | true => false | false => match leI size b with | true => false | false => rowFrom size b bs
def rowsOk (n : Int) (rows : List (List Int)) : Bool := rows.all fun r => rowFrom n (-1) r
def relOk (n : Int) (rows : List (List Int)) : Bool := leI 0 n && leI n 40 && eqI rows.length n && rowsOk n rows
end Go.Proofs.Ytdppjbiphekgjaa
namespace Go.Proofs.Ytdppjbiphekgjaa
open Go.Lg
set_option maxHeartbeats 1600000
set_option maxRecDepth 10000
set_option linter.unusedVariables false
set_option linter.unusedSimpArgs false

structure RowsLen (rows : List (List Int)) : Prop where
  n : rows.length ≤ Go.maxLen
  each : ∀ r ∈ rows, r.length ≤ Go.maxLen

theorem szN_ok {l : Int} {n : Nat} (h0 : 0 ≤ l) (h1 : l ≤ 1048576) (hn : n ≤ Go.maxLen) (h : 0 ≤ szN l n) : szN l n = l - n ∧ (n : Int) ≤ l := by
  unfold szN at h ⊢
  rw [wrap_sub h0 h1 hn] at h ⊢
  split at h
  · omega
  · exact ⟨rfl, by omega⟩
theorem szRs_ok : ∀ (rows : List (List Int)) (l : Int), 0 ≤ l → l ≤ 1048576 → (∀ r ∈ rows, r.length ≤ Go.maxLen) → 0 ≤ szRs l rows → szRs l rows = l - tot rows ∧ (tot rows : Int) ≤ l
  | [], l, h0, _, _, _ => by simp [szRs, tot]; exact h0
  | r :: rs, l, h0, h1, hn, h => by
    simp only [szRs] at h ⊢
    split at h
    · omega
    · rename_i hh
      rw [ltI_f] at hh
      obtain ⟨a1, a2⟩ := szN_ok h0 h1 (hn r (by simp)) hh
      obtain ⟨b1, b2⟩ := szRs_ok rs _ hh (by omega) (fun q hq => hn q (by simp [hq])) h
      rw [tot_cons]
      exact ⟨by rw [b1, a1]; omega, by omega⟩
theorem tot_mem : ∀ {rows : List (List Int)} {r : List Int}, r ∈ rows → r.length ≤ tot rows
  | x :: xs, r, h => by
    rw [tot_cons]
    rcases List.mem_cons.1 h with rfl | h
    · omega
    · have := tot_mem h; omega
theorem szRows_ok {rows : List (List Int)} {l : Int} (h0 : 0 ≤ l) (h1 : l ≤ 1048576) (hr : RowsLen rows) (h : 0 ≤ szRows l rows) : RowsOK rows ∧ tot rows ≤ 1048576 ∧ rows.length ≤ 1048576 ∧ szRows l rows ≤ l ∧ ltI (szRows l rows) 0 = false := by
  unfold szRows at h ⊢
  split at h
  · omega
  · rename_i hh
    rw [ltI_f] at hh
    obtain ⟨a1, a2⟩ := szN_ok h0 h1 hr.n hh
    obtain ⟨b1, b2⟩ := szRs_ok rows _ hh (by omega) hr.each h
    have hb : RowsOK rows := ⟨by omega, fun r hm => by have := tot_mem hm; omega⟩
    refine ⟨hb, by omega, by omega, by rw [b1]; omega, by rw [ltI_f]; exact h⟩

abbrev shInts : Sh := .sl (.int .i64)
abbrev shRel : Sh := .st [.int .i64, .sl (.sl (.int .i64))]
theorem ints_of : ∀ (xs : List LV), (∀ x ∈ xs, hasSh (.int .i64) x) → ∃ ns : List Int, xs = ns.map intLV
  | [], _ => ⟨[], rfl⟩
  | x :: xs, h => by
    obtain ⟨ns, rfl⟩ := ints_of xs fun y hy => h y (by simp [hy])
    have h0 := h x (by simp)
    simp only [hasSh] at h0
    obtain ⟨n, rfl⟩ := h0
    exact ⟨n :: ns, rfl⟩
theorem row_of_sh {x : LV} (h : hasSh shInts x) : ∃ r : List Int, x = rowSl r ∧ r.length ≤ Go.maxLen := by
  simp only [hasSh] at h
  obtain ⟨xs, rfl, hl, h⟩ := h
  obtain ⟨ns, rfl⟩ := ints_of xs fun x hx => by simp only [hasSh]; exact h x hx
  exact ⟨ns, rfl, by simpa using hl⟩
theorem rows_of : ∀ (xs : List LV), (∀ x ∈ xs, hasSh shInts x) → ∃ rows : List (List Int), xs = rows.map rowSl ∧ ∀ r ∈ rows, r.length ≤ Go.maxLen
  | [], _ => ⟨[], rfl, by simp⟩
  | x :: xs, h => by
    obtain ⟨rows, rfl, hl⟩ := rows_of xs fun y hy => h y (by simp [hy])
    obtain ⟨r, rfl, hr⟩ := row_of_sh (h x (by simp))
    exact ⟨r :: rows, rfl, List.forall_mem_cons.2 ⟨hr, hl⟩⟩
theorem rel_of_sh {x : LV} (h : hasSh shRel x) : ∃ (n : Int) (rows : List (List Int)), x = relLV n rows ∧ RowsLen rows := by
  simp only [hasSh] at h
  obtain ⟨xs, rfl, h⟩ := h
  match xs, h with
  | [a, b], h =>
    simp only [hasShs, hasSh] at h
    obtain ⟨⟨n, rfl⟩, ⟨ys, rfl, hl, hy⟩, _⟩ := h
    obtain ⟨rows, rfl, hr⟩ := rows_of ys fun y hy' => by simp only [hasSh]; exact hy y hy'
    exact ⟨n, rows, rfl, by simpa using hl, hr⟩
  | [], h => simp [hasShs] at h
  | [_], h => simp [hasShs] at h
  | _ :: _ :: _ :: _, h => simp [hasShs] at h

theorem eqB_refl (b : Bool) : eqB b b = true := by unfold eqB; simp

end Go.Proofs.Ytdppjbiphekgjaa
namespace Go.Proofs.Ytdppjbiphekgjaa
open Go.Lg
set_option maxHeartbeats 1600000
set_option maxRecDepth 10000
set_option linter.unusedVariables false
set_option linter.unusedSimpArgs false

theorem rowFrom_cons {n last b : Int} {bs : List Int} (h : rowFrom n last (b :: bs) = true) : last < b ∧ b < n ∧ rowFrom n b bs = true := by
  simp only [rowFrom] at h
  split at h
  · cases h
  · rename_i h1
    split at h
    · cases h
    · rename_i h2
      rw [leI_f] at h1 h2
      exact ⟨h1, h2, h⟩
theorem rowFrom_mem : ∀ {r : List Int} {n last : Int}, rowFrom n last r = true → ∀ b ∈ r, last < b ∧ b < n
  | [], _, _, _, b, hb => by simp at hb
  | x :: xs, n, last, h, b, hb => by
    obtain ⟨h1, h2, h3⟩ := rowFrom_cons h
    rcases List.mem_cons.1 hb with rfl | hb
    · exact ⟨h1, h2⟩
    · have := rowFrom_mem h3 b hb; omega
theorem rowFrom_len : ∀ {r : List Int} {n last : Int}, rowFrom n last r = true → (r.length : Int) + last ≤ n - 1 ∨ r = []
  | [], _, _, _ => .inr rfl
  | x :: xs, n, last, h => by
    obtain ⟨h1, h2, h3⟩ := rowFrom_cons h
    left
    rcases rowFrom_len h3 with h4 | rfl
    · simp only [List.length_cons]; omega
    · simp; omega
structure RelIn (n : Int) (rows : List (List Int)) : Prop where
  lo : 0 ≤ n
  hi : n ≤ 40
  len : (rows.length : Int) = n
  row : ∀ r ∈ rows, rowFrom n (-1) r = true
theorem relIn_of {n : Int} {rows : List (List Int)} (h : relOk n rows = true) : RelIn n rows := by
  unfold relOk rowsOk at h
  simp only [Bool.and_eq_true, leI_t, eqI_t, List.all_eq_true] at h
  exact ⟨h.1.1.1, h.1.1.2, h.1.2, h.2⟩
theorem relOk_of {n : Int} {rows : List (List Int)} (h : RelIn n rows) : relOk n rows = true := by
  unfold relOk rowsOk
  simp only [Bool.and_eq_true, leI_t, eqI_t, List.all_eq_true]
  exact ⟨⟨⟨h.lo, h.hi⟩, h.len⟩, h.row⟩
theorem RelIn.mem {n : Int} {rows : List (List Int)} (h : RelIn n rows) {r : List Int} (hr : r ∈ rows) {b : Int} (hb : b ∈ r) : 0 ≤ b ∧ b < n ∧ b < 40 := by
  have := rowFrom_mem (h.row r hr) b hb
  have := h.hi
  omega
theorem RelIn.rlen {n : Int} {rows : List (List Int)} (h : RelIn n rows) {r : List Int} (hr : r ∈ rows) : r.length ≤ 40 := by
  have h1 := h.hi
  rcases rowFrom_len (h.row r hr) with h2 | rfl
  · omega
  · simp

/-! ### Pairs -/
structure Pr where
  a : Int
  b : Int
def Pr.lv (p : Pr) : LV := .st [.int .i64 p.a, .int .i64 p.b]
def prRow (a : Nat) (r : List Int) : List Pr := r.map fun b => ⟨a, b⟩
def prFrom : Nat → List (List Int) → List Pr
  | _, [] => []
  | a, r :: rs => prRow a r ++ prFrom (a + 1) rs
theorem prFrom_snoc : ∀ (a : Nat) (rs : List (List Int)) (r : List Int), prFrom a (rs ++ [r]) = prFrom a rs ++ prRow (a + rs.length) r
  | a, [], r => by simp [prFrom]
  | a, x :: xs, r => by
    simp only [List.cons_append, prFrom, prFrom_snoc _ xs r, List.append_assoc, List.length_cons]
    congr 3; omega
theorem prFrom_len : ∀ (a : Nat) (rs : List (List Int)), (prFrom a rs).length = tot rs
  | _, [] => rfl
  | a, r :: rs => by simp [prFrom, prRow, tot_cons, prFrom_len _ rs]
theorem tot_le {m : Nat} : ∀ {rows : List (List Int)}, (∀ r ∈ rows, r.length ≤ m) → tot rows ≤ rows.length * m
  | [], _ => by simp [tot]
  | r :: rs, h => by
    have h1 := h r (by simp)
    have h2 := tot_le (rows := rs) fun q hq => h q (by simp [hq])
    rw [tot_cons, List.length_cons, Nat.succ_mul]; omega
theorem RelIn.tot {n : Int} {rows : List (List Int)} (h : RelIn n rows) : tot rows ≤ 1600 := by
  have h1 := tot_le (rows := rows) (m := 40) fun r hr => h.rlen hr
  have h2 : rows.length ≤ 40 := by have := h.len; have := h.hi; omega
  have := Nat.mul_le_mul_right 40 h2
  omega
/-- What has been listed when k rows are done, and i numbers of the next. -/
def prTo (rows : List (List Int)) (k i : Nat) : List Pr := prFrom 0 (rows.take k) ++ prRow k ((rows.getD k []).take i)
theorem prTo_zero (rows : List (List Int)) (k : Nat) : prTo rows k 0 = prFrom 0 (rows.take k) := by simp [prTo, prRow]
theorem prTo_succ {rows : List (List Int)} {k i : Nat} (hk : k < rows.length) (hi : i < rows[k].length) : prTo rows k (i + 1) = prTo rows k i ++ [⟨k, rows[k][i]⟩] := by
  have hg : rows.getD k [] = rows[k] := by simp [List.getD_eq_getElem?_getD, hk]
  unfold prTo
  rw [hg, List.take_succ_eq_append_getElem hi]
  simp only [prRow, List.map_append, List.map_cons, List.map_nil, List.append_assoc]
theorem prTo_row {rows : List (List Int)} {k : Nat} (hk : k < rows.length) : prTo rows k rows[k].length = prTo rows (k + 1) 0 := by
  have hg : rows.getD k [] = rows[k] := by simp [List.getD_eq_getElem?_getD, hk]
  rw [prTo_zero]
  unfold prTo
  rw [hg, List.take_length, List.take_succ_eq_append_getElem hk, prFrom_snoc]
  simp [List.length_take, Nat.min_eq_left (Nat.le_of_lt hk)]
theorem prTo_len {rows : List (List Int)} {k i : Nat} (hk : k < rows.length) (hi : i ≤ rows[k].length) : (prTo rows k i).length ≤ tot rows := by
  have hg : rows.getD k [] = rows[k] := by simp [List.getD_eq_getElem?_getD, hk]
  have h1 := tot_take_succ hk
  have h2 := tot_take_le rows (k + 1)
  unfold prTo
  rw [List.length_append, prFrom_len, hg]
  simp [prRow]
  omega
def pairsL (n : Int) (rows : List (List Int)) : List Pr := match relOk n rows with | true => prFrom 0 rows | false => []
theorem pairsL_len (n : Int) (rows : List (List Int)) : (pairsL n rows).length ≤ 1600 := by
  unfold pairsL
  split
  · rename_i h; rw [prFrom_len]; exact (relIn_of h).tot
  · simp
end Go.Proofs.Ytdppjbiphekgjaa

namespace Go.Proofs.Ytdppjbiphekgjaa
open Go.Lg
set_option maxHeartbeats 1600000
set_option maxRecDepth 10000
set_option linter.unusedVariables false
set_option linter.unusedSimpArgs false

/-- The numbers of a set, below k. -/
def listTo (s : Nat) (k : Nat) : List Int := List.map (fun i : Nat => (i : Int)) (List.filter (fun i : Nat => s.testBit i) (List.range k))
def listN (s : Nat) : List Int := listTo s 40
theorem listTo_len (s k : Nat) : (listTo s k).length ≤ k := by
  unfold listTo
  rw [List.length_map]
  exact Nat.le_trans (List.length_filter_le _ _) (by simp)
theorem listTo_succ (s k : Nat) : listTo s (k + 1) = listTo s k ++ (match hasN s (k : Int) with | true => [(k : Int)] | false => []) := by
  unfold listTo hasN
  rw [List.range_succ, List.filter_append, List.map_append]
  congr 1
  simp only [List.filter_cons, List.filter_nil, Int.toNat_natCast]
  cases s.testBit k <;> rfl

theorem list_h (s : Nat) (hs : s < 2 ^ 64) : HSpec env.P 133 [uLV s] [] (.hs 0 ((listN s).map intLV).length) [.arr 3 1 ((listN s).map intLV)] := by
  refine HSpec_of_code (E := env.x [] 0) env_ok.x (fn := Try.f133) Try.func133 rfl Try.call133 _ _ _ _ ?_
  ((repeat ((conv => whnf); first | refine brT ?_ | refine brF ?_)); conv => whnf)
  refine loop_ruleR (α := Nat) [.nil 3 1] (fun k => [(5, .int .i64 (k : Int)), (3, .hs 0 ((listTo s k).map intLV).length)]) (fun k => [.arr 3 1 ((listTo s k).map intLV)])
    (fun k => 40 - k) (fun k => k ≤ 40) 0 (Nat.zero_le _) ?_ ?_
  · refine ⟨?_, ⟨rfl, rfl, trivial⟩, rfl⟩
    ((repeat ((conv => whnf); refine ⟨rfl, rfl, ?_⟩)); trivial)
  intro k hk
  ((repeat ((conv => whnf); first | refine brT ?_ | refine brF ?_)); conv => whnf)
  (refine ⟨fun h1 => ?_, fun h1 => ?_⟩ <;> rw [h1])
  · have hlt : k < 40 := by rw [ltI_t] at h1; omega
    have hsu := listTo_succ s k
    have hl := listTo_len s k
    have hl1 := listTo_len s (k + 1)
    have e : LV.int .i64 (IntKind.i64.wrap ((k : Int) + 1)) = LV.int .i64 ((k + 1 : Nat) : Int) := step_i (n := 40) hlt (by decide)
    ((repeat ((conv => whnf); first | refine brT ?_ | refine brF ?_)); conv => whnf)
    refine ⟨_, has_spec s k hs (by omega) (by omega), ?_⟩
    ((repeat ((conv => whnf); first | refine brT ?_ | refine brF ?_)); conv => whnf)
    (refine ⟨fun h2 => ?_, fun h2 => ?_⟩ <;> rw [h2])
    · rw [h2] at hsu
      have e2 : ((listTo s k).map intLV ++ [LV.int .i64 (k : Int)]) = (listTo s (k + 1)).map intLV := by rw [hsu, List.map_append]; rfl
      have e3 : LV.hs 0 ((listTo s k).map intLV ++ [LV.int .i64 (k : Int)]).length = LV.hs 0 ((listTo s (k + 1)).map intLV).length := by rw [e2]
      ((repeat ((conv => whnf); first | refine brT ?_ | refine brF ?_)); conv => whnf)
      refine ⟨rfl, rfl, by rw [e2]; unfold Go.maxLen; simp; omega, by rw [e2]; simp; omega, ?_⟩
      ((repeat ((conv => whnf); first | refine brT ?_ | refine brF ?_)); conv => whnf)
      refine round_endR [.old 2] (k + 1) hlt (by omega) ⟨?_, ⟨rfl, congrArg (Blk.arr 3 1) e2, trivial⟩, rfl⟩
      repeat ((conv => whnf); first | refine ⟨rfl, e, ?_⟩ | refine ⟨rfl, e3, ?_⟩ | refine ⟨rfl, rfl, ?_⟩)
      trivial
    · rw [h2, List.append_nil] at hsu
      have e3 : LV.hs 0 ((listTo s k).map intLV).length = LV.hs 0 ((listTo s (k + 1)).map intLV).length := by rw [hsu]
      ((repeat ((conv => whnf); first | refine brT ?_ | refine brF ?_)); conv => whnf)
      refine round_endR [.old 0] (k + 1) hlt (by omega) ⟨?_, ⟨rfl, congrArg (Blk.arr 3 1) (by rw [hsu]), trivial⟩, rfl⟩
      repeat ((conv => whnf); first | refine ⟨rfl, e, ?_⟩ | refine ⟨rfl, e3, ?_⟩ | refine ⟨rfl, rfl, ?_⟩)
      trivial
  · have h3 : k = 40 := by rw [ltI_f] at h1; omega
    subst h3
    ((repeat ((conv => whnf); first | refine brT ?_ | refine brF ?_)); conv => whnf)
    exact ⟨[.hs 0 ((listN s).map intLV).length], rfl, rfl, .inl ⟨⟨rfl, trivial⟩, ⟨rfl, trivial⟩, rfl, rfl⟩⟩

theorem listOf_h (s : Nat) (hs : s < 2 ^ 64) : HSpec env.P 132 [uLV s] [] (.hs 0 ((listN s).map intLV).length) [.arr 3 1 ((listN s).map intLV)] := by
  refine HSpec_of_code (E := env.x [133] 0) env_ok.x (fn := Try.f132) Try.func132 rfl Try.call132 _ _ _ _ ?_
  ((repeat ((conv => whnf); first | refine brT ?_ | refine brF ?_)); conv => whnf)
  refine ⟨[], _, _, _, _, list_h s hs, rfl, rfl, rfl, trivial, ?_⟩
  ((repeat ((conv => whnf); first | refine brT ?_ | refine brF ?_)); conv => whnf)
  exact ⟨[.hs 0 ((listN s).map intLV).length], rfl, rfl, .inl ⟨⟨rfl, trivial⟩, ⟨rfl, trivial⟩, rfl, rfl⟩⟩

/-- mapEach of rows of sets -/
theorem mapLists_h (ss : List Nat) (hs : ∀ s ∈ ss, s < 2 ^ 64) (hb : 24 * ss.length ≤ 281474976710656) :
    HSpec env.P 131 [.sl (ss.map uLV), .clos 132 []] [] (.hs 0 (ss.map fun s => rowOw (listN s)).length) [.tree 58 1 (ss.map fun s => rowOw (listN s))] := by
  refine HSpec_of_code (E := env.x [132] 0) env_ok.x (fn := Try.f131) Try.func131 rfl Try.call131 _ _ _ _ ?_
  ((repeat ((conv => whnf); first | refine brT ?_ | refine brF ?_)); conv => whnf)
  intro hp
  have hp' : ss.length ≤ Go.maxLen := by simpa using hp
  ((repeat ((conv => whnf); first | refine brT ?_ | refine brF ?_)); conv => whnf)
  refine ⟨ss.length, by simp, by simp, hb, hp', rfl, by decide, ?_⟩
  ((repeat ((conv => whnf); first | refine brT ?_ | refine brF ?_)); conv => whnf)
  intro _
  ((repeat ((conv => whnf); first | refine brT ?_ | refine brF ?_)); conv => whnf)
  refine loop_ruleR (α := Nat) [.old 0] (fun k => [(13, .int .i64 (k : Int))]) (fun k => [.tree 58 1 (fillLV (fun s => rowOw (listN s)) .nil ss k)]) (fun k => ss.length - k) (fun k => k ≤ ss.length) 0 (Nat.zero_le _) ?_ ?_
  · refine ⟨?_, ⟨rfl, by simp [fillLV, renB], trivial⟩, rfl⟩
    ((repeat ((conv => whnf); refine ⟨rfl, rfl, ?_⟩)); trivial)
  rintro k hk
  ((repeat ((conv => whnf); first | refine brT ?_ | refine brF ?_)); conv => whnf)
  (refine ⟨fun h1 => ?_, fun h1 => ?_⟩ <;> rw [h1])
  · have hlt : k < ss.length := by rw [ltI_t] at h1; simp at h1; omega
    ((repeat ((conv => whnf); first | refine brT ?_ | refine brF ?_)); conv => whnf)
    refine ⟨k, uLV ss[k], rfl, by simp [hlt], rfl, ?_⟩
    ((repeat ((conv => whnf); first | refine brT ?_ | refine brF ?_)); conv => whnf)
    refine ⟨[], _, _, _, _, listOf_h ss[k] (hs _ (List.getElem_mem hlt)), rfl, rfl, rfl, trivial, ?_⟩
    ((repeat ((conv => whnf); first | refine brT ?_ | refine brF ?_)); conv => whnf)
    refine ⟨(fill_len hk).symm, rfl, k, rfl, by rw [fill_len hk]; exact hlt, ?_⟩
    ((repeat ((conv => whnf); first | refine brT ?_ | refine brF ?_)); conv => whnf)
    refine ⟨rfl, ?_⟩
    ((repeat ((conv => whnf); first | refine brT ?_ | refine brF ?_)); conv => whnf)
    refine ⟨(fill_len hk).symm, rfl, .nil, .nil, fillLV (fun s => rowOw (listN s)) .nil ss (k + 1), fill_get hlt, rfl, rfl, fill_set hlt, ?_⟩
    ((repeat ((conv => whnf); first | refine brT ?_ | refine brF ?_)); conv => whnf)
    refine round_end (k + 1) hlt (by omega) ⟨?_, ⟨rfl, trivial⟩, rfl, rfl⟩
    have e := step_i hlt hp'
    ((repeat ((conv => whnf); first | refine ⟨e, ?_⟩ | refine ⟨rfl, ?_⟩)); trivial)
  · have h4 : k = ss.length := by rw [ltI_f] at h1; simp at h1; omega
    subst h4
    ((repeat ((conv => whnf); first | refine brT ?_ | refine brF ?_)); conv => whnf)
    exact ⟨[.hs 0 ss.length], by simp [tupOf], rfl, .inl ⟨⟨rfl, trivial⟩, ⟨congrArg (Blk.tree 58 1) fill_all, trivial⟩, rfl, rfl⟩⟩
end Go.Proofs.Ytdppjbiphekgjaa

namespace Go.Proofs.Ytdppjbiphekgjaa
open Go.Lg
set_option maxHeartbeats 1600000
set_option maxRecDepth 10000
set_option linter.unusedVariables false
set_option linter.unusedSimpArgs false

/-- The rows of what is related among n numbers. -/
def relRows (n : Nat) (P : Nat → Nat → Bool) : List (List Int) := (List.range n).map fun a => List.map (fun i : Nat => (i : Int)) (List.filter (fun b : Nat => P a b) (List.range n))
theorem relRows_len (n : Nat) (P : Nat → Nat → Bool) : (relRows n P).length = n := by simp [relRows]

theorem listTo_cut {s n : Nat} (h : ∀ i, n ≤ i → i < 40 → s.testBit i = false) (hn : n ≤ 40) : listN s = listTo s n := by
  have key : ∀ m, n ≤ m → m ≤ 40 → listTo s m = listTo s n := by
    intro m
    induction m with
    | zero => intro h1 _; have : n = 0 := by omega
              subst this; rfl
    | succ m ih =>
      intro h1 h2
      by_cases e : n = m + 1
      · subst e; rfl
      · rw [listTo_succ, ih (by omega) (by omega)]
        have : hasN s (m : Int) = false := by unfold hasN; simpa using h m (by omega) (by omega)
        rw [this]; simp
  exact key 40 hn (Nat.le_refl _)

/-- Sets of numbers, as rows. -/
theorem rows_of_sets {ss : List Nat} {n : Nat} {P : Nat → Nat → Bool} (hl : ss.length = n) (hn : n ≤ 40) (h : ∀ (a : Nat) (ha : a < ss.length) (b : Nat), b < 40 → ss[a].testBit b = (decide (b < n) && P a b)) :
    ss.map listN = relRows n P := by
  apply List.ext_getElem
  · simp [relRows, hl]
  · intro a h1 h2
    have ha : a < ss.length := by simpa using h1
    simp only [List.getElem_map, relRows, List.getElem_range]
    rw [listTo_cut (n := n) (fun i hi hi40 => by rw [h a ha i hi40]; simp; omega) hn]
    unfold listTo
    congr 1
    apply List.filter_congr
    intro b hb
    have hb : b < n := by simpa using hb
    rw [h a ha b (by omega)]; simp [hb]

theorem flatTs_rows : ∀ rows : List (List Int), flatTs (rows.map rowOw) = true
  | [] => rfl
  | r :: rs => by simp only [List.map_cons, flatTs, Bool.and_eq_true]; exact ⟨by simp only [rowOw, flatT1]; exact flats_ints r, flatTs_rows rs⟩

theorem relationOfSets_h (ss : List Nat) (hs : ∀ s ∈ ss, s < 2 ^ 64) (hb : 24 * ss.length ≤ 281474976710656) (hm : ss.length ≤ Go.maxLen) :
    HSpec env.P 66 [.sl (ss.map uLV)] [] (relHS ss.length 0 ((ss.map listN).map rowOw).length) [.tree 58 1 ((ss.map listN).map rowOw)] := by
  refine HSpec_of_code (E := env.x [131] 0) env_ok.x (fn := Try.f66) Try.func66 rfl Try.call66 _ _ _ _ ?_
  ((repeat ((conv => whnf); first | refine brT ?_ | refine brF ?_)); conv => whnf)
  refine ⟨[], _, _, _, _, mapLists_h ss hs hb, rfl, rfl, rfl, trivial, ?_⟩
  ((repeat ((conv => whnf); first | refine brT ?_ | refine brF ?_)); conv => whnf)
  intro _
  ((repeat ((conv => whnf); first | refine brT ?_ | refine brF ?_)); conv => whnf)
  refine ⟨[relHS ss.length 0 ((ss.map listN).map rowOw).length], rfl, rfl, .inr ⟨[.old 1], ?_, ?_, rfl⟩⟩
  · have e : LV.st [LV.int .i64 ((ss.map uLV).length : Int), LV.hs 0 (ss.map fun s => rowOw (listN s)).length] = relHS ss.length 0 ((ss.map listN).map rowOw).length := by simp [relHS]
    exact ⟨rfl, e, trivial⟩
  · exact ⟨rfl, congrArg (Blk.tree 58 1) (by rw [List.map_map]; rfl), trivial⟩

/-- Both valid, of one size. -/
def alike (n : Int) (rows : List (List Int)) (m : Int) (rows' : List (List Int)) : Bool := eqI n m && relOk n rows && relOk m rows'
def bLV (b : Bool) : LV := .bool b
def lineOw (l : List Bool) : LV := .own 4 1 (l.map bLV)
def lineSl (l : List Bool) : LV := .sl (l.map bLV)
theorem dms_lines : ∀ g : List (List Bool), dms (g.map lineOw) = g.map lineSl
  | [] => rfl
  | r :: rs => by simp only [List.map_cons, dms, dms_lines rs]; rfl
def blank (n k : Nat) : List (List Bool) := List.replicate k (List.replicate n false)

theorem l2Blank_h (n : Nat) (hn : n ≤ 40) : HSpec env.P 124 [.int .i64 (n : Int)] [] (.hs 0 ((blank n n).map lineOw).length) [.tree 103 1 ((blank n n).map lineOw)] := by
  refine HSpec_of_code (E := env.x [] 0) env_ok.x (fn := Try.f124) Try.func124 rfl Try.call124 _ _ _ _ ?_
  ((repeat ((conv => whnf); first | refine brT ?_ | refine brF ?_)); conv => whnf)
  refine loop_ruleR (α := Nat) [.old 0] (fun k => [(5, .undef), (4, .int .i64 (k : Int)), (3, .hs 0 ((blank n k).map lineOw).length)]) (fun k => [.tree 103 1 ((blank n k).map lineOw)]) (fun k => n - k) (fun k => k ≤ n) 0 (Nat.zero_le _) ?_ ?_
  · refine ⟨?_, ⟨rfl, rfl, trivial⟩, rfl⟩
    ((repeat ((conv => whnf); refine ⟨rfl, rfl, ?_⟩)); trivial)
  intro k hk
  ((repeat ((conv => whnf); first | refine brT ?_ | refine brF ?_)); conv => whnf)
  (refine ⟨fun h1 => ?_, fun h1 => ?_⟩ <;> rw [h1])
  · have hlt : k < n := by rw [ltI_t] at h1; omega
    have e : LV.int .i64 (IntKind.i64.wrap ((k : Int) + 1)) = LV.int .i64 ((k + 1 : Nat) : Int) := step_i (n := 40) (by omega) (by decide)
    have e2 : (blank n k).map lineOw ++ [LV.own 4 1 (List.replicate n (.bool false))] = (blank n (k + 1)).map lineOw := by
      unfold blank
      rw [List.replicate_succ', List.map_append]
      simp [lineOw, bLV]
    have e3 : LV.hs 0 ((blank n k).map lineOw ++ [LV.own 4 1 (List.replicate n (.bool false))]).length = LV.hs 0 ((blank n (k + 1)).map lineOw).length := by rw [e2]
    ((repeat ((conv => whnf); first | refine brT ?_ | refine brF ?_)); conv => whnf)
    refine ⟨n, rfl, rfl, by show 1 * n ≤ _; omega, by unfold Go.maxLen; omega, rfl, by decide, ?_⟩
    ((repeat ((conv => whnf); first | refine brT ?_ | refine brF ?_)); conv => whnf)
    refine ⟨by simp, ?_⟩
    ((repeat ((conv => whnf); first | refine brT ?_ | refine brF ?_)); conv => whnf)
    refine ⟨rfl, ?_⟩
    ((repeat ((conv => whnf); first | refine brT ?_ | refine brF ?_)); conv => whnf)
    refine ⟨rfl, by show (_ ++ [LV.own 4 1 _]).length ≤ _; rw [e2]; unfold Go.maxLen; simp [blank]; omega, by show (_ ++ [LV.own 4 1 _]).length * 24 ≤ _; rw [e2]; simp [blank]; omega, ?_⟩
    ((repeat ((conv => whnf); first | refine brT ?_ | refine brF ?_)); conv => whnf)
    refine round_endR [.old 3] (k + 1) hlt (by omega) ⟨?_, ⟨rfl, congrArg (Blk.tree 103 1) e2, trivial⟩, rfl⟩
    repeat ((conv => whnf); first | refine ⟨rfl, e, ?_⟩ | refine ⟨rfl, e3, ?_⟩ | refine ⟨rfl, rfl, ?_⟩)
    trivial
  · have h3 : k = n := by rw [ltI_f] at h1; omega
    subst h3
    ((repeat ((conv => whnf); first | refine brT ?_ | refine brF ?_)); conv => whnf)
    exact ⟨[.hs 0 ((blank k k).map lineOw).length], rfl, rfl, .inl ⟨⟨rfl, trivial⟩, ⟨rfl, trivial⟩, rfl, rfl⟩⟩

end Go.Proofs.Ytdppjbiphekgjaa

namespace Go.Proofs.Ytdppjbiphekgjaa
open Go.Lg
set_option maxHeartbeats 1600000
set_option maxRecDepth 10000
set_option linter.unusedVariables false
set_option linter.unusedSimpArgs false

/-- The places of a line that are true, below k. -/
def lineTo (l : List Bool) (k : Nat) : List Int := List.map (fun i : Nat => (i : Int)) (List.filter (fun i : Nat => l.getD i false) (List.range k))
def lineN (l : List Bool) : List Int := lineTo l l.length
theorem lineTo_len (l : List Bool) (k : Nat) : (lineTo l k).length ≤ k := by
  unfold lineTo
  rw [List.length_map]
  exact Nat.le_trans (List.length_filter_le _ _) (by simp)
theorem lineTo_succ {l : List Bool} {k : Nat} (h : k < l.length) : lineTo l (k + 1) = lineTo l k ++ (match l[k] with | true => [(k : Int)] | false => []) := by
  unfold lineTo
  rw [List.range_succ, List.filter_append, List.map_append]
  congr 1
  have : l.getD k false = l[k] := by simp [List.getD_eq_getElem?_getD, h]
  simp only [List.filter_cons, List.filter_nil, this]
  cases l[k] <;> rfl

theorem l2Of_h (g : List (List Bool)) (hg : g.length ≤ 40) (hl : ∀ l ∈ g, l.length ≤ 40) :
    HSpec env.P 60 [.sl (g.map lineSl)] [] (relHS g.length 0 ((g.map lineN).map rowOw).length) [.tree 58 1 ((g.map lineN).map rowOw)] := by
  refine HSpec_of_code (E := env.x [] 0) env_ok.x (fn := Try.f60) Try.func60 rfl Try.call60 _ _ _ _ ?_
  have hgl : (g.map lineSl).length = g.length := by simp
  ((repeat ((conv => whnf); first | refine brT ?_ | refine brF ?_)); conv => whnf)
  intro hm
  rw [hgl]
  ((repeat ((conv => whnf); first | refine brT ?_ | refine brF ?_)); conv => whnf)
  intro _
  rw [hgl]
  ((repeat ((conv => whnf); first | refine brT ?_ | refine brF ?_)); conv => whnf)
  refine loop_ruleN (α := Nat) [.box 1 [1] true 58 1] [.old 0, .old 1, .old 2] (fun k => [(14, .int .i64 (k : Int))])
    (fun k => [.box (.st [.int .i64 0, .nil]), .box (.st [.int .i64 (g.length : Int), .hs 2 (((g.take k).map lineN).map rowOw).length]), .tree 58 1 (((g.take k).map lineN).map rowOw)]) (fun k => g.length - k) (fun k => k ≤ g.length) 0 (Nat.zero_le _) ?_ ?_
  · refine ⟨?_, ⟨rfl, rfl, rfl, rfl, rfl, rfl, trivial⟩, rfl⟩
    ((repeat ((conv => whnf); refine ⟨rfl, rfl, ?_⟩)); trivial)
  intro k hk
  ((repeat ((conv => whnf); first | refine brT ?_ | refine brF ?_)); conv => whnf)
  (refine ⟨fun h1 => ?_, fun h1 => ?_⟩ <;> rw [h1])
  · have hlt : k < g.length := by rw [ltI_t] at h1; omega
    have e := step_i (n := g.length) hlt (by unfold Go.maxLen; omega)
    have hll := hl g[k] (List.getElem_mem hlt)
    have hgk : (g.map lineSl)[k]? = some (lineSl g[k]) := by simp [hlt]
    have htk : g.take (k + 1) = g.take k ++ [g[k]] := List.take_succ_eq_append_getElem hlt
    generalize g[k] = l at hll hgk htk
    ((repeat ((conv => whnf); first | refine brT ?_ | refine brF ?_)); conv => whnf)
    refine ⟨k, lineSl l, rfl, hgk, rfl, ?_⟩
    ((repeat ((conv => whnf); first | refine brT ?_ | refine brF ?_)); conv => whnf)
    intro hml
    ((repeat ((conv => whnf); first | refine brT ?_ | refine brF ?_)); conv => whnf)
    refine loop_rule (α := Nat) (fun i => [(18, .undef), (21, .int .i64 (i : Int)), (6, .hs 3 ((lineTo l i).map intLV).length)])
      (fun i => [.box (.st [.int .i64 0, .nil]), .box (.st [.int .i64 (g.length : Int), .hs 2 (((g.take k).map lineN).map rowOw).length]), .tree 58 1 (((g.take k).map lineN).map rowOw), .arr 3 1 ((lineTo l i).map intLV)]) (fun i => l.length - i) (fun i => i ≤ l.length) 0 (Nat.zero_le _) ?_ ?_
    · refine ⟨?_, ⟨rfl, rfl, rfl, rfl, trivial⟩, rfl, rfl⟩
      ((repeat ((conv => whnf); refine ⟨rfl, ?_⟩)); trivial)
    intro i hi
    generalize hKK : kk _ = KK
    ((repeat ((conv => whnf); first | refine brT ?_ | refine brF ?_)); conv => whnf)
    (refine ⟨fun h2 => ?_, fun h2 => ?_⟩ <;> rw [h2])
    · have hil : i < l.length := by rw [ltI_t] at h2; simp at h2; omega
      have e' := step_i (n := l.length) hil (by unfold Go.maxLen; omega)
      have hsu := lineTo_succ hil
      have hl0 := lineTo_len l i
      have hl1 := lineTo_len l (i + 1)
      ((repeat ((conv => whnf); first | refine brT ?_ | refine brF ?_)); conv => whnf)
      refine ⟨i, bLV l[i], rfl, by simp [hil], rfl, ?_⟩
      ((repeat ((conv => whnf); first | refine brT ?_ | refine brF ?_)); conv => whnf)
      (refine ⟨fun h3 => ?_, fun h3 => ?_⟩ <;> rw [h3])
      · rw [h3] at hsu
        have e2 : ((lineTo l i).map intLV ++ [LV.int .i64 (i : Int)]) = (lineTo l (i + 1)).map intLV := by rw [hsu, List.map_append]; rfl
        have e3 : LV.hs 3 ((lineTo l i).map intLV ++ [LV.int .i64 (i : Int)]).length = LV.hs 3 ((lineTo l (i + 1)).map intLV).length := by rw [e2]
        ((repeat ((conv => whnf); first | refine brT ?_ | refine brF ?_)); conv => whnf)
        refine ⟨rfl, rfl, by rw [e2]; unfold Go.maxLen; simp; omega, by rw [e2]; simp; omega, ?_⟩
        ((repeat ((conv => whnf); first | refine brT ?_ | refine brF ?_)); conv => whnf)
        refine round_endR [.old 0, .old 1, .old 2, .old 5] (i + 1) hil (by omega) ⟨?_, ⟨rfl, rfl, rfl, rfl, rfl, rfl, rfl, congrArg (Blk.arr 3 1) e2, trivial⟩, rfl⟩
        repeat ((conv => whnf); first | refine ⟨rfl, e', ?_⟩ | refine ⟨rfl, e3, ?_⟩ | refine ⟨rfl, rfl, ?_⟩)
        trivial
      · rw [h3, List.append_nil] at hsu
        have e3 : LV.hs 3 ((lineTo l i).map intLV).length = LV.hs 3 ((lineTo l (i + 1)).map intLV).length := by rw [hsu]
        ((repeat ((conv => whnf); first | refine brT ?_ | refine brF ?_)); conv => whnf)
        refine round_endR [.old 0, .old 1, .old 2, .old 3] (i + 1) hil (by omega) ⟨?_, ⟨rfl, rfl, rfl, rfl, rfl, rfl, rfl, congrArg (Blk.arr 3 1) (by rw [hsu]), trivial⟩, rfl⟩
        repeat ((conv => whnf); first | refine ⟨rfl, e', ?_⟩ | refine ⟨rfl, e3, ?_⟩ | refine ⟨rfl, rfl, ?_⟩)
        trivial
    · have hil : i = l.length := by rw [ltI_f] at h2; simp at h2; omega
      subst hil
      have e4 : (((g.take k).map lineN).map rowOw ++ [LV.own 3 1 ((lineTo l l.length).map intLV)]) = ((g.take (k + 1)).map lineN).map rowOw := by
        rw [htk, List.map_append, List.map_append]; rfl
      have hkl : (((g.take (k + 1)).map lineN).map rowOw).length = k + 1 := by simp; omega
      subst hKK
      ((repeat ((conv => whnf); first | refine brT ?_ | refine brF ?_)); conv => whnf)
      refine ⟨rfl, ?_⟩
      ((repeat ((conv => whnf); first | refine brT ?_ | refine brF ?_)); conv => whnf)
      refine ⟨rfl, rfl, by show (_ ++ [LV.own 3 1 _]).length ≤ _; rw [e4, hkl]; unfold Go.maxLen; omega, by show (_ ++ [LV.own 3 1 _]).length * 24 ≤ _; rw [e4, hkl]; omega, ?_⟩
      ((repeat ((conv => whnf); first | refine brT ?_ | refine brF ?_)); conv => whnf)
      have e := step_i (n := g.length) hlt (by unfold Go.maxLen; omega)
      have e5 : LV.st [LV.int .i64 (g.length : Int), LV.hs 2 (((g.take k).map lineN).map rowOw ++ [LV.own 3 1 ((lineTo l l.length).map intLV)]).length] = LV.st [LV.int .i64 (g.length : Int), LV.hs 2 (((g.take (k + 1)).map lineN).map rowOw).length] := by rw [e4]
      refine round_endR [.old 0, .old 1, .old 5] (k + 1) hlt (by omega) ⟨?_, ⟨rfl, rfl, rfl, congrArg Blk.box e5, rfl, congrArg (Blk.tree 58 1) e4, trivial⟩, rfl⟩
      repeat ((conv => whnf); first | refine ⟨rfl, e, ?_⟩ | refine ⟨rfl, rfl, ?_⟩)
      trivial
  · have h3 : k = g.length := by rw [ltI_f] at h1; omega
    subst h3
    ((repeat ((conv => whnf); first | refine brT ?_ | refine brF ?_)); conv => whnf)
    refine ⟨[relHS g.length 0 (((g.take g.length).map lineN).map rowOw).length], by simp [tupOf], rfl, .inr ⟨[.old 2], ⟨rfl, rfl, trivial⟩, ⟨rfl, congrArg (Blk.tree 58 1) (by rw [List.take_length]), trivial⟩, rfl⟩⟩
end Go.Proofs.Ytdppjbiphekgjaa

namespace Go.Proofs.Ytdppjbiphekgjaa
open Go.Lg
set_option maxHeartbeats 1600000
set_option maxRecDepth 10000
set_option linter.unusedVariables false
set_option linter.unusedSimpArgs false

/-- The relation in which nobody is related, among n numbers. -/
def empN (n : Int) : Nat := if 0 ≤ n ∧ n ≤ 40 then n.toNat else 0
def empR (k : Nat) : List (List Int) := List.replicate k []
theorem empN_le (n : Int) : empN n ≤ 40 := by unfold empN; split <;> omega
theorem empN_ok {n : Int} (h0 : 0 ≤ n) (h1 : n ≤ 40) : n = (empN n : Int) := by unfold empN; rw [if_pos ⟨h0, h1⟩]; omega
theorem empN_no {n : Int} (h : ¬ (0 ≤ n ∧ n ≤ 40)) : empN n = 0 := by unfold empN; rw [if_neg h]
theorem lineN_false (n : Nat) : lineN (List.replicate n false) = [] := by
  unfold lineN lineTo
  rw [List.map_eq_nil_iff, List.filter_eq_nil_iff]
  intro i hi
  simp [List.getD_eq_getElem?_getD, List.getElem?_replicate]
  split <;> simp
theorem blank_lines (n k : Nat) : (blank n k).map lineN = empR k := by
  unfold blank empR
  rw [List.map_replicate, lineN_false]
theorem listN_zero : listN 0 = [] := by decide

theorem isSize_ok {n : Int} (h : notB (leI 0 n && leI n 40) = false) : 0 ≤ n ∧ n ≤ 40 := by
  rw [notB_f, Bool.and_eq_true] at h
  exact ⟨leI_t.1 h.1, leI_t.1 h.2⟩
theorem isSize_no {n : Int} (h : notB (leI 0 n && leI n 40) = true) : ¬ (0 ≤ n ∧ n ≤ 40) := by
  rw [notB_t] at h
  rintro ⟨a, b⟩
  rw [leI_t.2 a, leI_t.2 b] at h
  cases h

theorem empR_flat (k : Nat) : tot (empR k) = 0 := by
  unfold empR
  induction k with
  | zero => rfl
  | succ k ih => rw [List.replicate_succ, tot_cons, ih]; rfl
theorem empR_mark (j : Int) : ∀ k : Nat, markRows j (empR k) = empR k := by
  intro k
  unfold empR
  induction k generalizing j with
  | zero => rfl
  | succ k ih => rw [List.replicate_succ]; simp only [markRows]; rw [ih]; rfl

end Go.Proofs.Ytdppjbiphekgjaa
namespace Go.Proofs.Ytdppjbiphekgjaa
open Go.Lg
set_option maxHeartbeats 1600000
set_option maxRecDepth 10000
set_option linter.unusedVariables false
set_option linter.unusedSimpArgs false

/-- What the table says of a and b when k rows are done, and i numbers of the next. -/
def gAt (rows : List (List Int)) (k i a b : Nat) : Bool := decide ((a < k ∧ (b : Int) ∈ rows.getD a []) ∨ (a = k ∧ (b : Int) ∈ (rows.getD k []).take i))
def gridTo (rows : List (List Int)) (k i : Nat) : List (List Bool) := (List.range rows.length).map fun a => (List.range rows.length).map fun b => gAt rows k i a b
def gridL (rows : List (List Int)) : List (List Bool) := gridTo rows rows.length 0
theorem gridTo_len (rows : List (List Int)) (k i : Nat) : (gridTo rows k i).length = rows.length := by simp [gridTo]
theorem gridTo_zero (rows : List (List Int)) : gridTo rows 0 0 = blank rows.length rows.length := by
  unfold gridTo blank
  apply List.ext_getElem
  · simp
  · intro a h1 h2
    simp only [List.getElem_map, List.getElem_range, List.getElem_replicate]
    apply List.ext_getElem
    · simp
    · intro b h3 h4
      simp [gAt]
theorem gridTo_row {rows : List (List Int)} {k : Nat} (hk : k < rows.length) : gridTo rows k rows[k].length = gridTo rows (k + 1) 0 := by
  unfold gridTo
  have hg : rows.getD k [] = rows[k] := by simp [List.getD_eq_getElem?_getD, hk]
  apply List.map_congr_left
  intro a _
  apply List.map_congr_left
  intro b _
  unfold gAt
  rw [hg, List.take_length, decide_eq_decide]
  constructor
  · rintro (⟨h1, h2⟩ | ⟨h1, h2⟩)
    · exact .inl ⟨by omega, h2⟩
    · subst h1; exact .inl ⟨by omega, by rw [hg]; exact h2⟩
  · rintro (⟨h1, h2⟩ | ⟨h1, h2⟩)
    · by_cases e : a = k
      · subst e; rw [hg] at h2; exact .inr ⟨rfl, h2⟩
      · exact .inl ⟨by omega, h2⟩
    · simp at h2
def gLine (rows : List (List Int)) (k i : Nat) : List Bool := (List.range rows.length).map fun b => gAt rows k i k b
theorem gLine_len (rows : List (List Int)) (k i : Nat) : (gLine rows k i).length = rows.length := by simp [gLine]
theorem gridTo_get {rows : List (List Int)} {k i : Nat} (hk : k < rows.length) : (gridTo rows k i)[k]? = some (gLine rows k i) := by
  simp [gridTo, gLine, hk]
theorem gLine_set {rows : List (List Int)} {k i b : Nat} (hk : k < rows.length) (hi : i < rows[k].length) (hb : rows[k][i] = (b : Int)) : (gLine rows k i).set b true = gLine rows k (i + 1) := by
  have hg : rows.getD k [] = rows[k] := by simp [List.getD_eq_getElem?_getD, hk]
  apply List.ext_getElem
  · simp [gLine]
  · intro c h1 h2
    rw [List.getElem_set]
    simp only [gLine, List.getElem_map, List.getElem_range, gAt, hg, List.take_succ_eq_append_getElem hi, List.mem_append, List.mem_singleton, hb]
    split
    · rename_i e; subst e; simp
    · rename_i e
      rw [decide_eq_decide]
      have : ¬ ((c : Int) = (b : Int)) := by omega
      simp [this]
theorem gridTo_set {rows : List (List Int)} {k i b : Nat} (hk : k < rows.length) (hi : i < rows[k].length) (hb : rows[k][i] = (b : Int)) : (gridTo rows k i).set k (gLine rows k (i + 1)) = gridTo rows k (i + 1) := by
  have hg : rows.getD k [] = rows[k] := by simp [List.getD_eq_getElem?_getD, hk]
  apply List.ext_getElem
  · simp [gridTo]
  · intro a h1 h2
    rw [List.getElem_set]
    split
    · rename_i e; subst e; simp [gridTo, gLine]
    · rename_i e
      simp only [gridTo, List.getElem_map, List.getElem_range]
      apply List.map_congr_left
      intro c _
      unfold gAt
      rw [decide_eq_decide]
      have : ¬ (a = k) := fun h => e h.symm
      simp [this]

end Go.Proofs.Ytdppjbiphekgjaa
namespace Go.Proofs.Ytdppjbiphekgjaa
open Go.Lg
set_option maxHeartbeats 1600000
set_option maxRecDepth 10000
set_option linter.unusedVariables false
set_option linter.unusedSimpArgs false

def idxOf : Nat → List Int → Int → Int
  | _, [], _ => -1
  | k, x :: xs, v => match eqI v x with | true => (k : Int) | false => idxOf (k + 1) xs v
theorem idxOf_has : ∀ (k : Nat) (xs : List Int) (v : Int), leI 0 (idxOf k xs v) = decide (v ∈ xs)
  | k, [], v => by simp only [idxOf]; rw [show leI 0 (-1) = false by rw [leI_f]; omega]; simp
  | k, x :: xs, v => by
    simp only [idxOf]
    cases h : eqI v x
    · simp only []
      rw [idxOf_has (k + 1) xs v]
      rw [eqI_f] at h
      simp [h]
    · simp only []
      rw [eqI_t] at h
      subst h
      rw [show leI 0 (k : Int) = true by rw [leI_t]; omega]
      simp
/-- Whether a is related to b. -/
def isRel (n : Int) (rows : List (List Int)) (a b : Int) : Bool := relOk n rows && decide (0 ≤ a ∧ a < n ∧ b ∈ rows.getD a.toNat [])

theorem gLine_at {rows : List (List Int)} {a b : Nat} (ha : a < rows.length) (hb : b < rows.length) : gAt rows rows.length 0 a b = decide ((b : Int) ∈ rows[a]) := by
  have hg : rows.getD a [] = rows[a] := by simp [List.getD_eq_getElem?_getD, ha]
  unfold gAt
  rw [hg, decide_eq_decide]
  simp [ha]
def gRow (rows : List (List Int)) (a : Nat) : List Bool := (List.range rows.length).map fun b => gAt rows rows.length 0 a b
theorem gRow_len (rows : List (List Int)) (a : Nat) : (gRow rows a).length = rows.length := by simp [gRow]
theorem gridL_len (rows : List (List Int)) : (gridL rows).length = rows.length := gridTo_len rows _ _
theorem gridL_get {rows : List (List Int)} {a : Nat} (ha : a < rows.length) : (gridL rows)[a]? = some (gRow rows a) := by simp [gridL, gridTo, gRow, ha]
theorem gRow_get {rows : List (List Int)} {a b : Nat} (ha : a < rows.length) (hb : b < rows.length) : (gRow rows a)[b]? = some (decide ((b : Int) ∈ rows[a])) := by
  rw [← gLine_at ha hb]
  simp [gRow, hb]
theorem flatTs_lines : ∀ g : List (List Bool), flatTs (g.map lineOw) = true
  | [] => rfl
  | r :: rs => by
    simp only [List.map_cons, flatTs, Bool.and_eq_true]
    refine ⟨?_, flatTs_lines rs⟩
    simp only [lineOw, flatT1]
    induction r with
    | nil => rfl
    | cons x xs ih => simp only [List.map_cons, flatsB, Bool.and_eq_true]; exact ⟨rfl, ih⟩

end Go.Proofs.Ytdppjbiphekgjaa
namespace Go.Proofs.Ytdppjbiphekgjaa
open Go.Lg
set_option maxHeartbeats 1600000
set_option maxRecDepth 10000
set_option linter.unusedVariables false
set_option linter.unusedSimpArgs false

/-! ### Tables and sets of one predicate -/
def gridP (n : Nat) (P : Nat → Nat → Bool) : List (List Bool) := (List.range n).map fun a => (List.range n).map fun b => P a b
def lineP (n : Nat) (P : Nat → Nat → Bool) (a : Nat) : List Bool := (List.range n).map fun b => P a b
/-- One place set. -/
def putP (P : Nat → Nat → Bool) (a b : Nat) (v : Bool) : Nat → Nat → Bool := fun x y => if x = a ∧ y = b then v else P x y
theorem gridP_len (n : Nat) (P : Nat → Nat → Bool) : (gridP n P).length = n := by simp [gridP]
theorem lineP_len (n : Nat) (P : Nat → Nat → Bool) (a : Nat) : (lineP n P a).length = n := by simp [lineP]
theorem gridP_get {n a : Nat} {P : Nat → Nat → Bool} (h : a < n) : (gridP n P)[a]? = some (lineP n P a) := by simp [gridP, lineP, h]
theorem lineP_get {n a b : Nat} {P : Nat → Nat → Bool} (h : b < n) : (lineP n P a)[b]? = some (P a b) := by simp [lineP, h]
theorem lineP_put {n a b : Nat} {P : Nat → Nat → Bool} {v : Bool} : (lineP n P a).set b v = lineP n (putP P a b v) a := by
  apply List.ext_getElem
  · simp [lineP]
  · intro y h1 h2
    rw [List.getElem_set]
    simp only [lineP, List.getElem_map, List.getElem_range, putP]
    by_cases e : b = y
    · subst e; simp
    · have : ¬ y = b := fun h => e h.symm
      simp [e, this]
theorem gridP_put {n a b : Nat} {P : Nat → Nat → Bool} {v : Bool} : (gridP n P).set a (lineP n (putP P a b v) a) = gridP n (putP P a b v) := by
  apply List.ext_getElem
  · simp [gridP]
  · intro x h1 h2
    rw [List.getElem_set]
    simp only [gridP, List.getElem_map, List.getElem_range]
    by_cases e : a = x
    · subst e; simp [lineP]
    · have : ¬ x = a := fun h => e h.symm
      simp [e, putP, this]
theorem gridP_ext {n : Nat} {P Q : Nat → Nat → Bool} (h : ∀ a, a < n → ∀ b, b < n → P a b = Q a b) : gridP n P = gridP n Q := by
  unfold gridP
  apply List.map_congr_left
  intro a ha
  apply List.map_congr_left
  intro b hb
  exact h a (by simpa using ha) b (by simpa using hb)
theorem relRows_ext {n : Nat} {P Q : Nat → Nat → Bool} (h : ∀ a, a < n → ∀ b, b < n → P a b = Q a b) : relRows n P = relRows n Q := by
  unfold relRows
  apply List.map_congr_left
  intro a ha
  congr 1
  apply List.filter_congr
  intro b hb
  exact h a (by simpa using ha) b (by simpa using hb)
theorem gridP_rows (n : Nat) (P : Nat → Nat → Bool) : (gridP n P).map lineN = relRows n P := by
  unfold gridP relRows
  rw [List.map_map]
  apply List.map_congr_left
  intro a ha
  simp only [Function.comp_apply, lineN, lineTo, List.length_map, List.length_range]
  congr 1
  apply List.filter_congr
  intro b hb
  have hb : b < n := by simpa using hb
  simp [List.getD_eq_getElem?_getD, hb]
theorem blank_gridP (n : Nat) : blank n n = gridP n (fun _ _ => false) := by
  unfold blank gridP
  apply List.ext_getElem
  · simp
  · intro a h1 h2
    simp only [List.getElem_map, List.getElem_range, List.getElem_replicate]
    apply List.ext_getElem
    · simp
    · intro b h3 h4
      simp

/-! ### Sets -/
def bitsP : Nat → (Nat → Bool) → Nat
  | 0, _ => 0
  | n + 1, p => bitsP n p ||| (if p n then 2 ^ n else 0)
theorem bitsP_bit (p : Nat → Bool) : ∀ (n i : Nat), (bitsP n p).testBit i = (decide (i < n) && p i)
  | 0, i => by simp [bitsP]
  | n + 1, i => by
    simp only [bitsP]
    rw [Nat.testBit_or, bitsP_bit p n i]
    by_cases e : i = n
    · subst e
      cases h : p i <;> simp [Nat.testBit_two_pow]
    · have h2 : decide (i < n + 1) = decide (i < n) := by rw [decide_eq_decide]; omega
      rw [h2]
      cases h : p n
      · simp
      · have : ¬ n = i := fun h => e h.symm
        simp [Nat.testBit_two_pow, this]
theorem bitsP_lt (p : Nat → Bool) : ∀ n, bitsP n p < 2 ^ n
  | 0 => by simp [bitsP]
  | n + 1 => by
    simp only [bitsP]
    have h := bitsP_lt p n
    have h2 : 2 ^ n < 2 ^ (n + 1) := Nat.pow_lt_pow_right (by omega) (by omega)
    refine Nat.or_lt_two_pow (by omega) ?_
    split <;> omega
theorem bitsP_64 {n : Nat} (p : Nat → Bool) (h : n ≤ 64) : bitsP n p < 2 ^ 64 := Nat.lt_of_lt_of_le (bitsP_lt p n) (Nat.pow_le_pow_right (by omega) h)
def setsP (n : Nat) (P : Nat → Nat → Bool) : List Nat := (List.range n).map fun a => bitsP n (P a)
theorem setsP_len (n : Nat) (P : Nat → Nat → Bool) : (setsP n P).length = n := by simp [setsP]
theorem setsP_get {n a : Nat} {P : Nat → Nat → Bool} (h : a < n) : (setsP n P)[a]? = some (bitsP n (P a)) := by simp [setsP, h]
theorem setsP_lt {n : Nat} {P : Nat → Nat → Bool} (h : n ≤ 64) : ∀ s ∈ setsP n P, s < 2 ^ 64 := by
  intro s hs
  unfold setsP at hs
  obtain ⟨a, _, rfl⟩ := List.mem_map.1 hs
  exact bitsP_64 _ h
/-- One row set. -/
def rowP (P : Nat → Nat → Bool) (a : Nat) (p : Nat → Bool) : Nat → Nat → Bool := fun x y => if x = a then p y else P x y
theorem setsP_set {n a : Nat} {P : Nat → Nat → Bool} {p : Nat → Bool} {s : Nat} (h : s = bitsP n p) : (setsP n P).set a s = setsP n (rowP P a p) := by
  subst h
  apply List.ext_getElem
  · simp [setsP]
  · intro x h1 h2
    rw [List.getElem_set]
    simp only [setsP, List.getElem_map, List.getElem_range]
    by_cases e : a = x
    · subst e
      rw [if_pos rfl]
      congr 1
      funext y
      simp [rowP]
    · have : ¬ x = a := fun h => e h.symm
      rw [if_neg e]
      congr 1
      funext y
      simp [rowP, this]
theorem bits_ext {n s : Nat} {p : Nat → Bool} (h : ∀ i, s.testBit i = (decide (i < n) && p i)) : s = bitsP n p := by
  apply Nat.eq_of_testBit_eq
  intro i
  rw [h, bitsP_bit]
theorem bitsP_or {n : Nat} {p q : Nat → Bool} : bitsP n p ||| bitsP n q = bitsP n fun y => p y || q y :=
  bits_ext fun i => by rw [Nat.testBit_or, bitsP_bit, bitsP_bit]; cases decide (i < n) <;> simp
theorem bitsP_and {n : Nat} {p q : Nat → Bool} : bitsP n p &&& bitsP n q = bitsP n fun y => p y && q y :=
  bits_ext fun i => by rw [Nat.testBit_and, bitsP_bit, bitsP_bit]; cases decide (i < n) <;> simp
theorem bitsP_less {n : Nat} {p q : Nat → Bool} (hn : n ≤ 64) : lessN (bitsP n p) (bitsP n q) = bitsP n fun y => p y && !q y := by
  refine bits_ext fun i => ?_
  by_cases hi : i < 64
  · rw [lessN_bit (bitsP_64 p hn) hi, bitsP_bit, bitsP_bit]
    cases decide (i < n) <;> simp
  · rw [Nat.testBit_lt_two_pow (Nat.lt_of_lt_of_le (lessN_lt _ _) (Nat.pow_le_pow_right (by omega) (by omega : 64 ≤ i)))]
    have : ¬ i < n := by omega
    simp [this]
theorem bitsP_add {n b : Nat} {p : Nat → Bool} (hb : b < n) : bitsP n p ||| 2 ^ b = bitsP n fun y => if y = b then true else p y :=
  bits_ext fun i => by
    rw [Nat.testBit_or, bitsP_bit, Nat.testBit_two_pow]
    by_cases e : i = b
    · subst e; simp [hb]
    · have : ¬ b = i := fun h => e h.symm
      simp [e, this]
theorem setsP_add {n a b : Nat} {P : Nat → Nat → Bool} (hb : b < n) : (setsP n P).set a (bitsP n (P a) ||| 2 ^ b) = setsP n (putP P a b true) := by
  rw [setsP_set (p := fun y => if y = b then true else P a y) (bitsP_add hb)]
  congr 1
  funext x y
  simp only [rowP, putP]
  by_cases e : x = a
  · subst e; simp
  · simp [e]
theorem setsP_rows {n : Nat} {P : Nat → Nat → Bool} (hn : n ≤ 40) : (setsP n P).map listN = relRows n P := by
  refine rows_of_sets (setsP_len n P) hn fun a ha b hb => ?_
  simp only [setsP, List.getElem_map, List.getElem_range]
  exact bitsP_bit _ _ _
theorem setsP_zero (n : Nat) : List.replicate n 0 = setsP n (fun _ _ => false) := by
  unfold setsP
  apply List.ext_getElem
  · simp
  · intro a h1 h2
    simp only [List.getElem_replicate, List.getElem_map]
    exact bits_ext fun i => by simp

/-- What valid rows say. -/
def relP (rows : List (List Int)) (a b : Nat) : Bool := decide ((b : Int) ∈ rows.getD a [])
theorem gridL_P (rows : List (List Int)) : gridL rows = gridP rows.length (relP rows) := by
  unfold gridL gridTo gridP
  apply List.map_congr_left
  intro a ha
  have ha : a < rows.length := by simpa using ha
  apply List.map_congr_left
  intro b hb
  rw [gLine_at ha (by simpa using hb)]
  simp [relP, List.getD_eq_getElem?_getD, ha]
theorem sets_P {n : Int} {rows : List (List Int)} (hr : RelIn n rows) : rows.map setN = setsP rows.length (relP rows) := by
  apply List.ext_getElem
  · simp [setsP]
  · intro a h1 h2
    have ha : a < rows.length := by simpa using h1
    simp only [List.getElem_map, setsP, List.getElem_range]
    refine bits_ext fun i => ?_
    have hin : inSize rows[a] := fun b hb => by have := hr.mem (List.getElem_mem ha) hb; omega
    rw [setN_bit hin]
    have hl := hr.len
    have : rows.getD a [] = rows[a] := by simp [List.getD_eq_getElem?_getD, ha]
    simp only [relP, this]
    by_cases hm : (i : Int) ∈ rows[a]
    · have := (hr.mem (List.getElem_mem ha) hm).2.1
      have hi : i < rows.length := by omega
      simp [hm, hi]
    · simp [hm]
/-- Valid rows are the rows of what they say. -/
theorem sorted_ext : ∀ {r s : List Int} {n : Int} {last : Int}, rowFrom n last r = true → rowFrom n last s = true → (∀ x, x ∈ r ↔ x ∈ s) → r = s
  | [], [], _, _, _, _, _ => rfl
  | [], y :: ys, _, _, _, _, h => by have := (h y).2 (by simp); simp at this
  | x :: xs, [], _, _, _, _, h => by have := (h x).1 (by simp); simp at this
  | x :: xs, y :: ys, n, last, h1, h2, h => by
    obtain ⟨a1, a2, a3⟩ := rowFrom_cons h1
    obtain ⟨b1, b2, b3⟩ := rowFrom_cons h2
    have hxy : x = y := by
      have hx := (h x).1 (by simp)
      have hy := (h y).2 (by simp)
      rcases List.mem_cons.1 hx with e | hx
      · exact e
      · rcases List.mem_cons.1 hy with e | hy
        · exact e.symm
        · have := (rowFrom_mem b3 x hx).1
          have := (rowFrom_mem a3 y hy).1
          omega
    subst hxy
    congr 1
    refine sorted_ext a3 b3 fun z => ?_
    constructor
    · intro hz
      rcases List.mem_cons.1 ((h z).1 (by simp [hz])) with e | hz'
      · have := (rowFrom_mem a3 z hz).1; omega
      · exact hz'
    · intro hz
      rcases List.mem_cons.1 ((h z).2 (by simp [hz])) with e | hz'
      · have := (rowFrom_mem b3 z hz).1; omega
      · exact hz'
theorem rowFrom_filter {n : Nat} {p : Nat → Bool} : ∀ (k : Nat) (m : Nat) (last : Int), k + m = n → last < k → rowFrom n last (List.map (fun i : Nat => (i : Int)) (List.filter p (List.range' k m))) = true
  | k, 0, last, _, _ => by simp [rowFrom]
  | k, m + 1, last, h, hl => by
    rw [List.range'_succ]
    simp only [List.filter_cons]
    split
    · simp only [List.map_cons, rowFrom]
      rw [show leI (k : Int) last = false by rw [leI_f]; omega, show leI (n : Int) (k : Int) = false by rw [leI_f]; omega]
      exact rowFrom_filter (k + 1) m k (by omega) (by omega)
    · exact rowFrom_filter (k + 1) m last (by omega) (by omega)
theorem relRows_in {n : Nat} {P : Nat → Nat → Bool} (hn : n ≤ 40) : RelIn n (relRows n P) := by
  refine ⟨by omega, by omega, by rw [relRows_len], fun r hr => ?_⟩
  unfold relRows at hr
  obtain ⟨a, _, rfl⟩ := List.mem_map.1 hr
  rw [List.range_eq_range']
  exact rowFrom_filter 0 n (-1) (by omega) (by omega)
theorem relRows_mem {n a b : Nat} {P : Nat → Nat → Bool} (ha : a < n) : (b : Int) ∈ (relRows n P).getD a [] ↔ b < n ∧ P a b = true := by
  have : (relRows n P).getD a [] = List.map (fun i : Nat => (i : Int)) (List.filter (fun b : Nat => P a b) (List.range n)) := by
    simp [relRows, List.getD_eq_getElem?_getD, ha]
  rw [this]
  simp only [List.mem_map, List.mem_filter, List.mem_range]
  constructor
  · rintro ⟨i, h, e⟩
    have : i = b := by omega
    subst this; exact h
  · intro h; exact ⟨b, h, rfl⟩
theorem relP_relRows {n : Nat} {P : Nat → Nat → Bool} {a b : Nat} (ha : a < n) (hb : b < n) : relP (relRows n P) a b = P a b := by
  unfold relP
  cases h : P a b
  · rw [decide_eq_false_iff_not, relRows_mem ha]; simp [h]
  · rw [decide_eq_true_iff, relRows_mem ha]; exact ⟨hb, h⟩
theorem rows_eq {n : Nat} {rows : List (List Int)} (hr : RelIn n rows) : rows = relRows n (relP rows) := by
  have hl := hr.len
  have hh := hr.hi
  apply List.ext_getElem
  · rw [relRows_len]; omega
  · intro a h1 h2
    have ha : a < n := by omega
    have hq := relRows_in (n := n) (P := relP rows) (by omega)
    refine sorted_ext (hr.row _ (List.getElem_mem h1)) (hq.row _ (List.getElem_mem h2)) fun x => ?_
    have e1 : rows.getD a [] = rows[a] := by simp [List.getD_eq_getElem?_getD, h1]
    have e2 : (relRows n (relP rows)).getD a [] = (relRows n (relP rows))[a] := by simp [List.getD_eq_getElem?_getD, h2]
    constructor
    · intro hx
      obtain ⟨x0, x1, _⟩ := hr.mem (List.getElem_mem h1) hx
      obtain ⟨y, rfl⟩ : ∃ y : Nat, x = (y : Int) := ⟨x.toNat, by omega⟩
      rw [← e2, relRows_mem ha]
      exact ⟨by omega, by unfold relP; rw [e1]; simpa using hx⟩
    · intro hx
      obtain ⟨x0, x1, _⟩ := hq.mem (List.getElem_mem h2) hx
      obtain ⟨y, rfl⟩ : ∃ y : Nat, x = (y : Int) := ⟨x.toNat, by omega⟩
      rw [← e2, relRows_mem ha] at hx
      have := hx.2
      unfold relP at this
      rw [e1] at this
      simpa using this

/-! ### Rounds -/
def iter {σ : Type} (f : Nat → σ → σ) : Nat → σ → σ
  | 0, s => s
  | k + 1, s => f k (iter f k s)
end Go.Proofs.Ytdppjbiphekgjaa

namespace Go.Proofs.Ytdppjbiphekgjaa
open Go.Lg
set_option maxHeartbeats 1600000
set_option maxRecDepth 10000
set_option linter.unusedVariables false
set_option linter.unusedSimpArgs false

theorem RelIn.size {n : Int} {rows : List (List Int)} (h : RelIn n rows) : rows.length ≤ 40 := by have := h.len; have := h.hi; omega
theorem RelIn.ins {n : Int} {rows : List (List Int)} (h : RelIn n rows) : ∀ r ∈ rows, inSize r ∧ r.length ≤ Go.maxLen := fun r hr =>
  ⟨fun b hb => by have := h.mem hr hb; omega, by have := h.rlen hr; unfold Go.maxLen; omega⟩
theorem alike_in {n : Int} {rows : List (List Int)} {m : Int} {rows' : List (List Int)} (h : alike n rows m rows' = true) : RelIn n rows ∧ RelIn n rows' ∧ n = m ∧ rows'.length = rows.length := by
  unfold alike at h
  simp only [Bool.and_eq_true, eqI_t] at h
  obtain ⟨⟨rfl, h1⟩, h2⟩ := h
  have a := relIn_of h1
  have b := relIn_of h2
  exact ⟨a, b, rfl, by have := a.len; have := b.len; omega⟩

theorem relationOfSets_P (N : Nat) (P : Nat → Nat → Bool) (hN : N ≤ 40) :
    HSpec env.P 66 [.sl ((setsP N P).map uLV)] [] (relHS N 0 ((relRows N P).map rowOw).length) [.tree 58 1 ((relRows N P).map rowOw)] := by
  have h := relationOfSets_h (setsP N P) (setsP_lt (by omega)) (by rw [setsP_len]; omega) (by rw [setsP_len]; unfold Go.maxLen; omega)
  rw [setsP_len, setsP_rows hN] at h
  exact h

/-- What is combined, row by row. -/
def mixP (f : Bool → Bool → Bool) (P Q : Nat → Nat → Bool) (k : Nat) : Nat → Nat → Bool := fun a b => if a < k then f (P a b) (Q a b) else P a b
def allP (f : Bool → Bool → Bool) (P Q : Nat → Nat → Bool) : Nat → Nat → Bool := fun a b => f (P a b) (Q a b)
theorem mixP_set {f : Bool → Bool → Bool} {P Q : Nat → Nat → Bool} {n k : Nat} : (setsP n (mixP f P Q k)).set k (bitsP n fun b => f (P k b) (Q k b)) = setsP n (mixP f P Q (k + 1)) := by
  rw [setsP_set rfl]
  congr 1
  funext a b
  simp only [rowP, mixP]
  by_cases e : a = k
  · subst e; simp
  · rw [if_neg e]
    have : (a < k + 1) ↔ a < k := by omega
    simp only [this]
theorem mixP_row {f : Bool → Bool → Bool} {P Q : Nat → Nat → Bool} {k : Nat} : mixP f P Q k k = P k := by funext b; simp [mixP]
theorem mixP_zero {f : Bool → Bool → Bool} {P Q : Nat → Nat → Bool} : mixP f P Q 0 = P := by funext a b; simp [mixP]
theorem mixP_all {f : Bool → Bool → Bool} {P Q : Nat → Nat → Bool} {n : Nat} : relRows n (mixP f P Q n) = relRows n (allP f P Q) := relRows_ext fun a ha b _ => by simp [mixP, allP, ha]

/-- How many rows the result has. -/
def rsN (ok : Bool) (rows : List (List Int)) : Nat := match ok with | true => rows.length | false => 0
theorem relRows_zero (P : Nat → Nat → Bool) : relRows 0 P = [] := rfl

end Go.Proofs.Ytdppjbiphekgjaa
namespace Go.Proofs.Ytdppjbiphekgjaa
open Go.Lg
set_option maxHeartbeats 1600000
set_option maxRecDepth 10000
set_option linter.unusedVariables false
set_option linter.unusedSimpArgs false

theorem add_elem (N : Nat) (P : Nat → Nat → Bool) (a b : Nat) (ha : a < N) (hb : b < N) (hN : N ≤ 40) (n : Nat) (hn : n = ((setsP N P).map uLV).length) :
    HSpec env.P 136 [.hp 0 n [a], .int .i64 (b : Int)] [.arr 109 1 ((setsP N P).map uLV)] (.tup []) [.arr 109 1 ((setsP N (putP P a b true)).map uLV)] := by
  subst hn
  have g1 : ((setsP N P).map uLV)[a]? = some (uLV (bitsP N (P a))) := by rw [List.getElem?_map, setsP_get ha]; rfl
  refine HSpec_of_code (E := env.x [] 1) env_ok.x (fn := Try.f136) Try.func136 rfl Try.call136 _ _ _ _ ?_
  ((repeat ((conv => whnf); first | refine brT ?_ | refine brF ?_)); conv => whnf)
  refine ⟨true, by kernel_rfl, ?_⟩
  ((repeat ((conv => whnf); first | refine brT ?_ | refine brF ?_)); conv => whnf)
  refine ⟨rfl, by simp, _, by simp only [getP]; rw [g1], rfl, ?_⟩
  ((repeat ((conv => whnf); first | refine brT ?_ | refine brF ?_)); conv => whnf)
  refine ⟨by omega, ?_⟩
  ((repeat ((conv => whnf); first | refine brT ?_ | refine brF ?_)); conv => whnf)
  have e : LV.int .u64 (Go.Lg.orI .u64 ((bitsP N (P a) : Nat) : Int) (shlI .u64 1 (b : Int))) = uLV (bitsP N (P a) ||| 2 ^ b) := by
    rw [shlI_one (by omega) (by omega), orI_nat (bitsP_64 _ (by omega)) (two_lt (by omega))]; rfl
  have e2 : ((setsP N P).map uLV).set a (uLV (bitsP N (P a) ||| 2 ^ b)) = (setsP N (putP P a b true)).map uLV := by rw [← setsP_add hb, List.map_set]
  refine ⟨rfl, a, [], uLV (bitsP N (P a)), rfl, by simp only [getP]; rw [g1], rfl, rfl, rfl, (setsP N (putP P a b true)).map uLV, by rw [g1]; show List.set _ _ (LV.int _ _) = _; rw [e]; exact e2, ?_⟩
  ((repeat ((conv => whnf); first | refine brT ?_ | refine brF ?_)); conv => whnf)
  exact ⟨[], rfl, rfl, .inl ⟨trivial, ⟨rfl, trivial⟩, rfl, rfl⟩⟩
def idP (k : Nat) : Nat → Nat → Bool := fun a b => decide (a = b ∧ a < k)
theorem idP_put (k : Nat) : putP (idP k) k k true = idP (k + 1) := by
  funext a b
  simp only [putP, idP]
  by_cases e : a = k ∧ b = k
  · obtain ⟨rfl, rfl⟩ := e; simp
  · rw [if_neg e, decide_eq_decide]
    constructor
    · rintro ⟨rfl, h⟩; exact ⟨rfl, by omega⟩
    · rintro ⟨rfl, h⟩; exact ⟨rfl, by omega⟩
theorem idP_zero : idP 0 = fun _ _ => false := by funext a b; simp [idP]
def sizN (n : Int) : Nat := empN n
theorem gAt_succ {rows : List (List Int)} {k i b : Nat} (hk : k < rows.length) (hi : i < rows[k].length) (hb : rows[k][i] = (b : Int)) (x y : Nat) : gAt rows k (i + 1) x y = if x = k ∧ y = b then true else gAt rows k i x y := by
  have hg : rows.getD k [] = rows[k] := by simp [List.getD_eq_getElem?_getD, hk]
  unfold gAt
  rw [hg, List.take_succ_eq_append_getElem hi, List.getD_eq_getElem?_getD]
  simp only [List.mem_append, List.mem_singleton, hb]
  by_cases e : x = k ∧ y = b
  · obtain ⟨rfl, rfl⟩ := e; simp
  · rw [if_neg e, decide_eq_decide]
    have : ¬ (x = k ∧ (y : Int) = (b : Int)) := fun h => e ⟨h.1, by omega⟩
    constructor
    · rintro (h | ⟨h1, h2 | h2⟩)
      · exact .inl h
      · exact .inr ⟨h1, h2⟩
      · exact absurd ⟨h1, h2⟩ this
    · rintro (h | ⟨h1, h2⟩)
      · exact .inl h
      · exact .inr ⟨h1, .inl h2⟩
theorem gAt_row {rows : List (List Int)} {k : Nat} (hk : k < rows.length) (x y : Nat) : gAt rows k rows[k].length x y = gAt rows (k + 1) 0 x y := by
  have hg : rows.getD k [] = rows[k] := by simp [List.getD_eq_getElem?_getD, hk]
  unfold gAt
  rw [hg, List.take_length, decide_eq_decide]
  constructor
  · rintro (⟨h1, h2⟩ | ⟨h1, h2⟩)
    · exact .inl ⟨by omega, h2⟩
    · subst h1; exact .inl ⟨by omega, by rw [hg]; exact h2⟩
  · rintro (⟨h1, h2⟩ | ⟨h1, h2⟩)
    · by_cases e : x = k
      · subst e; rw [hg] at h2; exact .inr ⟨rfl, h2⟩
      · exact .inl ⟨by omega, h2⟩
    · simp at h2
theorem gAt_zero (rows : List (List Int)) (x y : Nat) : gAt rows 0 0 x y = false := by simp [gAt]
theorem gAt_all {rows : List (List Int)} {x : Nat} (hx : x < rows.length) (y : Nat) : gAt rows rows.length 0 x y = relP rows x y := by
  unfold gAt relP
  rw [decide_eq_decide]
  simp [hx]
/-- Turned round: what has been set when k rows are done, and i numbers of the next. -/
def cvP (rows : List (List Int)) (k i : Nat) : Nat → Nat → Bool := fun x y => gAt rows k i y x
def convP (rows : List (List Int)) : Nat → Nat → Bool := fun x y => relP rows y x
theorem cvP_put {rows : List (List Int)} {k i b : Nat} (hk : k < rows.length) (hi : i < rows[k].length) (hb : rows[k][i] = (b : Int)) : putP (cvP rows k i) b k true = cvP rows k (i + 1) := by
  funext x y
  simp only [putP, cvP]
  rw [gAt_succ hk hi hb]
  simp only [and_comm]
theorem cvP_row {rows : List (List Int)} {k : Nat} (hk : k < rows.length) : cvP rows k rows[k].length = cvP rows (k + 1) 0 := by funext x y; exact gAt_row hk y x
theorem cvP_zero (rows : List (List Int)) : cvP rows 0 0 = fun _ _ => false := by funext x y; exact gAt_zero rows y x
theorem cvP_all (rows : List (List Int)) : relRows rows.length (cvP rows rows.length 0) = relRows rows.length (convP rows) := relRows_ext fun a _ b hb => gAt_all hb a

end Go.Proofs.Ytdppjbiphekgjaa
namespace Go.Proofs.Ytdppjbiphekgjaa
open Go.Lg
set_option maxHeartbeats 1600000
set_option maxRecDepth 10000
set_option linter.unusedVariables false
set_option linter.unusedSimpArgs false

/-! ### The closure, by rows and place by place -/
def stepRow (k a : Nat) (P : Nat → Nat → Bool) : Nat → Nat → Bool := match P a k with | true => rowP P a (fun y => P a y || P k y) | false => P
def stepCell (k a b : Nat) (P : Nat → Nat → Bool) : Nat → Nat → Bool := match P a k && P k b with | true => putP P a b true | false => P
def roundR (N k : Nat) (P : Nat → Nat → Bool) : Nat → Nat → Bool := iter (stepRow k) N P
def roundC (N k : Nat) (P : Nat → Nat → Bool) : Nat → Nat → Bool := iter (fun a P => iter (stepCell k a) N P) N P
def viaP (k : Nat) (P : Nat → Nat → Bool) : Nat → Nat → Bool := fun a b => P a b || (P a k && P k b)
def closP (N : Nat) (P : Nat → Nat → Bool) : Nat → Nat → Bool := iter viaP N P

theorem iter_row (k : Nat) (P : Nat → Nat → Bool) : ∀ i, iter (stepRow k) i P = fun a b => if a < i then viaP k P a b else P a b
  | 0 => by funext a b; simp [iter]
  | i + 1 => by
    simp only [iter]
    rw [iter_row k P i]
    have hik : (if i < i then viaP k P i k else P i k) = P i k := by simp
    have hk : ∀ b, (if k < i then (P k b || (P k k && P k b)) else P k b) = P k b := fun b => by split <;> cases P k b <;> simp
    funext a b
    simp only [stepRow, hik]
    cases h : P i k
    · simp only []
      by_cases e : a = i
      · subst e; simp [viaP, h]
      · have : (a < i + 1) ↔ a < i := by omega
        simp only [this]
    · simp only [rowP]
      by_cases e : a = i
      · subst e; simp [viaP, h, hk]
      · have : (a < i + 1) ↔ a < i := by omega
        rw [if_neg e]
        simp only [this]
theorem stepCell_of {k a b : Nat} {P' P : Nat → Nat → Bool} (h1 : P' a k = P a k) (h2 : P' k b = P k b) : stepCell k a b P' = match P a k && P k b with | true => putP P' a b true | false => P' := by
  unfold stepCell; rw [h1, h2]
theorem iter_cell (k a : Nat) (P : Nat → Nat → Bool) : ∀ i, iter (stepCell k a) i P = fun x y => if x = a ∧ y < i then viaP k P x y else P x y
  | 0 => by funext x y; simp [iter]
  | i + 1 => by
    simp only [iter]
    rw [iter_cell k a P i]
    rw [stepCell_of (P := P) (by split <;> simp only [viaP] <;> cases P a k <;> simp) (by simp)]
    funext x y
    cases h : (P a k && P k i)
    · show (if x = a ∧ y < i then viaP k P x y else P x y) = _
      by_cases e : x = a ∧ y = i
      · obtain ⟨rfl, rfl⟩ := e; simp [viaP, h]
      · have : (x = a ∧ y < i + 1) ↔ (x = a ∧ y < i) := by
          constructor
          · rintro ⟨h1, h2⟩; exact ⟨h1, by rcases Nat.lt_or_ge y i with h | h; exact h; exact absurd ⟨h1, by omega⟩ e⟩
          · rintro ⟨h1, h2⟩; exact ⟨h1, by omega⟩
        simp only [this]
    · show (if x = a ∧ y = i then true else (if x = a ∧ y < i then viaP k P x y else P x y)) = _
      by_cases e : x = a ∧ y = i
      · obtain ⟨rfl, rfl⟩ := e; simp [viaP, h]
      · have : (x = a ∧ y < i + 1) ↔ (x = a ∧ y < i) := by
          constructor
          · rintro ⟨h1, h2⟩; exact ⟨h1, by rcases Nat.lt_or_ge y i with h | h; exact h; exact absurd ⟨h1, by omega⟩ e⟩
          · rintro ⟨h1, h2⟩; exact ⟨h1, by omega⟩
        rw [if_neg e]
        simp only [this]
theorem iter_cells (k N : Nat) (P : Nat → Nat → Bool) (hk : k < N) : ∀ j, iter (fun a P => iter (stepCell k a) N P) j P = fun x y => if x < j ∧ y < N then viaP k P x y else P x y
  | 0 => by funext x y; simp [iter]
  | j + 1 => by
    simp only [iter]
    rw [iter_cells k N P hk j, iter_cell]
    funext x y
    by_cases e : x = j ∧ y < N
    · obtain ⟨rfl, hy⟩ := e
      rw [if_pos ⟨rfl, hy⟩, if_pos ⟨by omega, hy⟩]
      simp only [viaP]
      have h1 : (if x < x ∧ y < N then P x y || (P x k && P k y) else P x y) = P x y := by simp
      have h2 : (if x < x ∧ k < N then P x k || (P x k && P k k) else P x k) = P x k := by simp
      have h3 : (if k < x ∧ y < N then P k y || (P k k && P k y) else P k y) = P k y := by split <;> simp
      rw [h1, h2, h3]
    · rw [if_neg e]
      have : (x < j + 1 ∧ y < N) ↔ (x < j ∧ y < N) := by
        constructor
        · rintro ⟨h1, h2⟩; exact ⟨by rcases Nat.lt_or_ge x j with h | h; exact h; exact absurd ⟨by omega, h2⟩ e, h2⟩
        · rintro ⟨h1, h2⟩; exact ⟨by omega, h2⟩
      simp only [this]
def sameP (N : Nat) (P Q : Nat → Nat → Bool) : Prop := ∀ a, a < N → ∀ b, b < N → P a b = Q a b
theorem closR (N : Nat) (P : Nat → Nat → Bool) : ∀ k, k ≤ N → sameP N (iter (roundR N) k P) (iter viaP k P)
  | 0, _ => fun a _ b _ => rfl
  | k + 1, h => fun a ha b hb => by
    have ih := closR N P k (by omega)
    simp only [iter, roundR, iter_row, viaP]
    rw [if_pos ha, ih a ha b hb, ih a ha k (by omega), ih k (by omega) b hb]
theorem closC (N : Nat) (P : Nat → Nat → Bool) : ∀ k, k ≤ N → sameP N (iter (roundC N) k P) (iter viaP k P)
  | 0, _ => fun a _ b _ => rfl
  | k + 1, h => fun a ha b hb => by
    have ih := closC N P k (by omega)
    simp only [iter, roundC]
    rw [iter_cells k N _ (by omega)]
    simp only [viaP]
    rw [if_pos ⟨ha, hb⟩, ih a ha b hb, ih a ha k (by omega), ih k (by omega) b hb]

theorem bitsP_has {N k : Nat} {p : Nat → Bool} (hk : k < N) : hasN (bitsP N p) (k : Int) = p k := by
  unfold hasN
  rw [Int.toNat_natCast, bitsP_bit]; simp [hk]
theorem stepRow_sets {N k a : Nat} {P : Nat → Nat → Bool} (h : P a k = true) : (setsP N P).set a (bitsP N (P a) ||| bitsP N (P k)) = setsP N (stepRow k a P) := by
  rw [setsP_set bitsP_or]
  simp only [stepRow, h]

end Go.Proofs.Ytdppjbiphekgjaa