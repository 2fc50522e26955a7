/- Contracts of functions of the program and of its model, told over readings. -/
import Derived.Test.YtfdjeflnjciloaaCPA
namespace Go.Proofs.Ytfdjeflnjciloaa
open Go.Lg
set_option maxHeartbeats 1600000
set_option maxRecDepth 10000
set_option linter.unusedVariables false
set_option linter.unusedSimpArgs false

/-! ### Bits -/
theorem u64_wrap {n : Nat} (h : n < 2 ^ 64) : IntKind.u64.wrap (n : Int) = n := by
  unfold IntKind.wrap
  simp [IntKind.signed, IntKind.bits]
  omega
theorem ofInt_nat (n : Nat) : BitVec.ofInt 64 (n : Int) = BitVec.ofNat 64 n := by simp
theorem orI_nat {a b : Nat} (ha : a < 2 ^ 64) (hb : b < 2 ^ 64) : Go.Lg.orI .u64 (a : Int) (b : Int) = ((a ||| b : Nat) : Int) := by
  unfold Go.Lg.orI
  show IntKind.u64.wrap ((BitVec.ofInt 64 (a : Int) ||| BitVec.ofInt 64 (b : Int)).toNat) = _
  rw [ofInt_nat, ofInt_nat, BitVec.toNat_or, BitVec.toNat_ofNat, BitVec.toNat_ofNat, Nat.mod_eq_of_lt ha, Nat.mod_eq_of_lt hb]
  exact u64_wrap (Nat.or_lt_two_pow ha hb)
theorem andI_nat {a b : Nat} (ha : a < 2 ^ 64) (hb : b < 2 ^ 64) : andI .u64 (a : Int) (b : Int) = ((a &&& b : Nat) : Int) := by
  unfold andI
  show IntKind.u64.wrap ((BitVec.ofInt 64 (a : Int) &&& BitVec.ofInt 64 (b : Int)).toNat) = _
  rw [ofInt_nat, ofInt_nat, BitVec.toNat_and, BitVec.toNat_ofNat, BitVec.toNat_ofNat, Nat.mod_eq_of_lt ha, Nat.mod_eq_of_lt hb]
  exact u64_wrap (Nat.and_lt_two_pow a hb)
/-- a but not b, in 64 bits -/
def lessN (a b : Nat) : Nat := (BitVec.ofNat 64 a &&& ~~~BitVec.ofNat 64 b).toNat
theorem lessN_lt (a b : Nat) : lessN a b < 2 ^ 64 := (BitVec.ofNat 64 a &&& ~~~BitVec.ofNat 64 b).isLt
theorem andNotI_nat (a b : Nat) : andNotI .u64 (a : Int) (b : Int) = (lessN a b : Int) := by
  unfold andNotI
  show IntKind.u64.wrap ((BitVec.ofInt 64 (a : Int) &&& ~~~BitVec.ofInt 64 (b : Int)).toNat) = _
  rw [ofInt_nat, ofInt_nat]
  exact u64_wrap (lessN_lt a b)
theorem lessN_bit {a b i : Nat} (ha : a < 2 ^ 64) (hi : i < 64) : (lessN a b).testBit i = (a.testBit i && !b.testBit i) := by
  unfold lessN
  rw [BitVec.testBit_toNat, BitVec.getLsbD_and, BitVec.getLsbD_not, BitVec.getLsbD_ofNat, BitVec.getLsbD_ofNat]
  simp [hi]
theorem shlI_one {b : Int} (h0 : 0 ≤ b) (h1 : b < 64) : shlI .u64 1 b = ((2 ^ b.toNat : Nat) : Int) := by
  unfold shlI
  have hm : min b.toNat IntKind.u64.bits = b.toNat := by
    have : b.toNat < 64 := by omega
    simp [IntKind.bits]; omega
  rw [hm, Int.one_mul]
  have hlt : 2 ^ b.toNat < 2 ^ 64 := Nat.pow_lt_pow_right (by omega) (by omega)
  have := u64_wrap hlt
  rw [← this]
  simp

def uLV (s : Nat) : LV := .int .u64 (s : Int)
/-- The set of a row. -/
def setFrom : Nat → List Int → Nat
  | s, [] => s
  | s, b :: bs => setFrom (s ||| 2 ^ b.toNat) bs
def setN (row : List Int) : Nat := setFrom 0 row
def inSize (row : List Int) : Prop := ∀ b ∈ row, 0 ≤ b ∧ b < 40
theorem two_lt {b : Nat} (h : b < 64) : 2 ^ b < 2 ^ 64 := Nat.pow_lt_pow_right (by omega) h
theorem setFrom_lt : ∀ (row : List Int) (s : Nat), s < 2 ^ 64 → inSize row → setFrom s row < 2 ^ 64
  | [], s, h, _ => h
  | b :: bs, s, h, hr => by
    have := hr b (by simp)
    exact setFrom_lt bs _ (Nat.or_lt_two_pow h (two_lt (by omega))) fun x hx => hr x (by simp [hx])
theorem setFrom_bit : ∀ (row : List Int) (s i : Nat), inSize row → (setFrom s row).testBit i = (s.testBit i || decide ((i : Int) ∈ row))
  | [], s, i, _ => by simp [setFrom]
  | b :: bs, s, i, hr => by
    have hb := hr b (by simp)
    simp only [setFrom]
    rw [setFrom_bit bs _ i fun x hx => hr x (by simp [hx]), Nat.testBit_or, Nat.testBit_two_pow]
    have : (b.toNat = i) ↔ ((i : Int) = b) := by omega
    simp only [List.mem_cons, this, Bool.or_assoc, Bool.decide_or]
theorem setN_bit {row : List Int} (h : inSize row) (i : Nat) : (setN row).testBit i = decide ((i : Int) ∈ row) := by unfold setN; rw [setFrom_bit row 0 i h]; simp
theorem setN_lt {row : List Int} (h : inSize row) : setN row < 2 ^ 64 := setFrom_lt row 0 (by decide) h

/-- (numberSet).has -/
def hasN (s : Nat) (b : Int) : Bool := s.testBit b.toNat
theorem has_bits {s : Nat} {b : Int} (hs : s < 2 ^ 64) (h0 : 0 ≤ b) (h1 : b < 64) : notB (eqI (andI .u64 (s : Int) (shlI .u64 1 b)) 0) = hasN s b := by
  rw [shlI_one h0 h1, andI_nat hs (two_lt (by omega))]
  unfold hasN notB eqI
  have hx : s &&& 2 ^ b.toNat = if s.testBit b.toNat then 2 ^ b.toNat else 0 := by
    apply Nat.eq_of_testBit_eq
    intro i
    rw [Nat.testBit_and, Nat.testBit_two_pow]
    by_cases hi : b.toNat = i
    · subst hi
      cases h : s.testBit b.toNat <;> simp [Nat.testBit_two_pow]
    · cases h : s.testBit b.toNat <;> simp [hi, Nat.testBit_two_pow]
  rw [hx]
  have hp : 0 < 2 ^ b.toNat := Nat.two_pow_pos _
  cases s.testBit b.toNat
  · simp
  · simp only [if_true]
    rw [Bool.not_eq_true', beq_eq_false_iff_ne]
    omega
theorem has_spec (s : Nat) (b : Int) (hs : s < 2 ^ 64) (h0 : 0 ≤ b) (h1 : b < 64) : FSpec env.P 123 [uLV s, .int .i64 b] (.bool (hasN s b)) := by
  refine FSpec_of_code env_ok (fn := Try.f123) Try.func123 rfl Try.call123 _ _ ?_
  ((repeat ((conv => whnf); first | refine brT ?_ | refine brF ?_)); conv => whnf)
  refine ⟨h0, ?_⟩
  ((repeat ((conv => whnf); first | refine brT ?_ | refine brF ?_)); conv => whnf)
  refine fin ?_
  exact has_bits hs h0 h1

/-- (numberSet).add of a variable -/
theorem add_box (s : Nat) (b : Int) (hs : s < 2 ^ 64) (h0 : 0 ≤ b) (h1 : b < 64) : HSpec env.P 116 [.hp 0 0 [], .int .i64 b] [.box (uLV s)] (.tup []) [.box (uLV (s ||| 2 ^ b.toNat))] := by
  refine HSpec_of_code (E := env.x [] 1) env_ok.x (fn := Try.f116) Try.func116 rfl Try.call116 _ _ _ _ ?_
  ((repeat ((conv => whnf); first | refine brT ?_ | refine brF ?_)); conv => whnf)
  refine ⟨true, by kernel_rfl, ?_⟩
  ((repeat ((conv => whnf); first | refine brT ?_ | refine brF ?_)); conv => whnf)
  refine ⟨h0, ?_⟩
  ((repeat ((conv => whnf); first | refine brT ?_ | refine brF ?_)); conv => whnf)
  have e : LV.int .u64 (Go.Lg.orI .u64 (s : Int) (shlI .u64 1 b)) = uLV (s ||| 2 ^ b.toNat) := by rw [shlI_one h0 h1, orI_nat hs (two_lt (by omega))]; rfl
  exact ⟨[], rfl, rfl, .inl ⟨trivial, ⟨congrArg Blk.box e, trivial⟩, rfl, rfl⟩⟩

theorem setOf_spec (row : List Int) (hr : inSize row) (hm : row.length ≤ Go.maxLen) : FSpec env.P 171 [rowSl row] (uLV (setN row)) := by
  refine FSpec_of_code (E := env.x [116] 0) env_ok.x (fn := Try.f171) Try.func171 rfl Try.call171 _ _ ?_
  ((repeat ((conv => whnf); first | refine brT ?_ | refine brF ?_)); conv => whnf)
  intro _
  rw [List.length_map]
  ((repeat ((conv => whnf); first | refine brT ?_ | refine brF ?_)); conv => whnf)
  refine loop_rule (α := Nat) (fun k => [(8, .int .i64 (k : Int))]) (fun k => [.box (uLV (setFrom 0 (row.take k)))]) (fun k => row.length - k) (fun k => k ≤ row.length) 0 (Nat.zero_le _) ?_ ?_
  · refine ⟨?_, ⟨rfl, trivial⟩, rfl, rfl⟩
    ((repeat ((conv => whnf); refine ⟨rfl, ?_⟩)); trivial)
  rintro k hk
  ((repeat ((conv => whnf); first | refine brT ?_ | refine brF ?_)); conv => whnf)
  (refine ⟨fun h1 => ?_, fun h1 => ?_⟩ <;> rw [h1])
  · have hlt : k < row.length := by rw [ltI_t] at h1; omega
    have hb := hr row[k] (List.getElem_mem hlt)
    have e := step_i hlt hm
    have hs : setFrom 0 (row.take k) < 2 ^ 64 := setFrom_lt _ _ (by decide) fun x hx => hr x (List.mem_of_mem_take hx)
    have es : setFrom 0 (row.take (k + 1)) = setFrom 0 (row.take k) ||| 2 ^ row[k].toNat := by
      rw [List.take_succ_eq_append_getElem hlt]
      generalize row.take k = l
      generalize (0 : Nat) = z
      induction l generalizing z with
      | nil => rfl
      | cons y ys ih => simp only [List.cons_append, setFrom]; exact ih _
    ((repeat ((conv => whnf); first | refine brT ?_ | refine brF ?_)); conv => whnf)
    refine ⟨k, intLV row[k], rfl, by simp [hlt], rfl, ?_⟩
    ((repeat ((conv => whnf); first | refine brT ?_ | refine brF ?_)); conv => whnf)
    refine ⟨[0], _, _, _, _, add_box _ row[k] hs hb.1 (by omega), rfl, rfl, rfl, trivial, ?_⟩
    ((repeat ((conv => whnf); first | refine brT ?_ | refine brF ?_)); conv => whnf)
    refine round_end (k + 1) hlt (by omega) ⟨?_, ⟨congrArg (fun s => Blk.box (uLV s)) es.symm, trivial⟩, rfl, rfl⟩
    ((repeat ((conv => whnf); first | refine ⟨e, ?_⟩ | refine ⟨rfl, ?_⟩)); trivial)
  · have h3 : k = row.length := by rw [ltI_f] at h1; omega
    subst h3
    ((repeat ((conv => whnf); first | refine brT ?_ | refine brF ?_)); conv => whnf)
    exact ⟨rfl, by rw [List.take_length]; rfl, List.nodup_nil⟩
end Go.Proofs.Ytfdjeflnjciloaa

namespace Go.Proofs.Ytfdjeflnjciloaa
open Go.Lg
set_option maxHeartbeats 1600000
set_option maxRecDepth 10000
set_option linter.unusedVariables false
set_option linter.unusedSimpArgs false

theorem rowFrom_cons {n last b : Int} {bs : List Int} (h : rowFrom n last (b :: bs) = true) : last < b ∧ b < n ∧ rowFrom n b bs = true := by
  simp only [rowFrom] at h
  split at h
  · cases h
  · rename_i h1
    split at h
    · cases h
    · rename_i h2
      rw [leI_f] at h1 h2
      exact ⟨h1, h2, h⟩
theorem rowFrom_mem : ∀ {r : List Int} {n last : Int}, rowFrom n last r = true → ∀ b ∈ r, last < b ∧ b < n
  | [], _, _, _, b, hb => by simp at hb
  | x :: xs, n, last, h, b, hb => by
    obtain ⟨h1, h2, h3⟩ := rowFrom_cons h
    rcases List.mem_cons.1 hb with rfl | hb
    · exact ⟨h1, h2⟩
    · have := rowFrom_mem h3 b hb; omega
theorem rowFrom_len : ∀ {r : List Int} {n last : Int}, rowFrom n last r = true → (r.length : Int) + last ≤ n - 1 ∨ r = []
  | [], _, _, _ => .inr rfl
  | x :: xs, n, last, h => by
    obtain ⟨h1, h2, h3⟩ := rowFrom_cons h
    left
    rcases rowFrom_len h3 with h4 | rfl
    · simp only [List.length_cons]; omega
    · simp; omega
structure RelIn (n : Int) (rows : List (List Int)) : Prop where
  lo : 0 ≤ n
  hi : n ≤ 40
  len : (rows.length : Int) = n
  row : ∀ r ∈ rows, rowFrom n (-1) r = true
theorem relIn_of {n : Int} {rows : List (List Int)} (h : relOk n rows = true) : RelIn n rows := by
  unfold relOk rowsOk at h
  simp only [Bool.and_eq_true, leI_t, eqI_t, List.all_eq_true] at h
  exact ⟨h.1.1.1, h.1.1.2, h.1.2, h.2⟩
theorem relOk_of {n : Int} {rows : List (List Int)} (h : RelIn n rows) : relOk n rows = true := by
  unfold relOk rowsOk
  simp only [Bool.and_eq_true, leI_t, eqI_t, List.all_eq_true]
  exact ⟨⟨⟨h.lo, h.hi⟩, h.len⟩, h.row⟩
theorem RelIn.mem {n : Int} {rows : List (List Int)} (h : RelIn n rows) {r : List Int} (hr : r ∈ rows) {b : Int} (hb : b ∈ r) : 0 ≤ b ∧ b < n ∧ b < 40 := by
  have := rowFrom_mem (h.row r hr) b hb
  have := h.hi
  omega
theorem RelIn.rlen {n : Int} {rows : List (List Int)} (h : RelIn n rows) {r : List Int} (hr : r ∈ rows) : r.length ≤ 40 := by
  have h1 := h.hi
  rcases rowFrom_len (h.row r hr) with h2 | rfl
  · omega
  · simp

/-! ### Pairs -/
structure Pr where
  a : Int
  b : Int
def Pr.lv (p : Pr) : LV := .st [.int .i64 p.a, .int .i64 p.b]
def prRow (a : Nat) (r : List Int) : List Pr := r.map fun b => ⟨a, b⟩
def prFrom : Nat → List (List Int) → List Pr
  | _, [] => []
  | a, r :: rs => prRow a r ++ prFrom (a + 1) rs
theorem prFrom_snoc : ∀ (a : Nat) (rs : List (List Int)) (r : List Int), prFrom a (rs ++ [r]) = prFrom a rs ++ prRow (a + rs.length) r
  | a, [], r => by simp [prFrom]
  | a, x :: xs, r => by
    simp only [List.cons_append, prFrom, prFrom_snoc _ xs r, List.append_assoc, List.length_cons]
    congr 3; omega
theorem prFrom_len : ∀ (a : Nat) (rs : List (List Int)), (prFrom a rs).length = tot rs
  | _, [] => rfl
  | a, r :: rs => by simp [prFrom, prRow, tot_cons, prFrom_len _ rs]
theorem tot_le {m : Nat} : ∀ {rows : List (List Int)}, (∀ r ∈ rows, r.length ≤ m) → tot rows ≤ rows.length * m
  | [], _ => by simp [tot]
  | r :: rs, h => by
    have h1 := h r (by simp)
    have h2 := tot_le (rows := rs) fun q hq => h q (by simp [hq])
    rw [tot_cons, List.length_cons, Nat.succ_mul]; omega
theorem RelIn.tot {n : Int} {rows : List (List Int)} (h : RelIn n rows) : tot rows ≤ 1600 := by
  have h1 := tot_le (rows := rows) (m := 40) fun r hr => h.rlen hr
  have h2 : rows.length ≤ 40 := by have := h.len; have := h.hi; omega
  have := Nat.mul_le_mul_right 40 h2
  omega
/-- What has been listed when k rows are done, and i numbers of the next. -/
def prTo (rows : List (List Int)) (k i : Nat) : List Pr := prFrom 0 (rows.take k) ++ prRow k ((rows.getD k []).take i)
theorem prTo_zero (rows : List (List Int)) (k : Nat) : prTo rows k 0 = prFrom 0 (rows.take k) := by simp [prTo, prRow]
theorem prTo_succ {rows : List (List Int)} {k i : Nat} (hk : k < rows.length) (hi : i < rows[k].length) : prTo rows k (i + 1) = prTo rows k i ++ [⟨k, rows[k][i]⟩] := by
  have hg : rows.getD k [] = rows[k] := by simp [List.getD_eq_getElem?_getD, hk]
  unfold prTo
  rw [hg, List.take_succ_eq_append_getElem hi]
  simp only [prRow, List.map_append, List.map_cons, List.map_nil, List.append_assoc]
theorem prTo_row {rows : List (List Int)} {k : Nat} (hk : k < rows.length) : prTo rows k rows[k].length = prTo rows (k + 1) 0 := by
  have hg : rows.getD k [] = rows[k] := by simp [List.getD_eq_getElem?_getD, hk]
  rw [prTo_zero]
  unfold prTo
  rw [hg, List.take_length, List.take_succ_eq_append_getElem hk, prFrom_snoc]
  simp [List.length_take, Nat.min_eq_left (Nat.le_of_lt hk)]
theorem prTo_len {rows : List (List Int)} {k i : Nat} (hk : k < rows.length) (hi : i ≤ rows[k].length) : (prTo rows k i).length ≤ tot rows := by
  have hg : rows.getD k [] = rows[k] := by simp [List.getD_eq_getElem?_getD, hk]
  have h1 := tot_take_succ hk
  have h2 := tot_take_le rows (k + 1)
  unfold prTo
  rw [List.length_append, prFrom_len, hg]
  simp [prRow]
  omega
def pairsL (n : Int) (rows : List (List Int)) : List Pr := match relOk n rows with | true => prFrom 0 rows | false => []
theorem pairsL_len (n : Int) (rows : List (List Int)) : (pairsL n rows).length ≤ 1600 := by
  unfold pairsL
  split
  · rename_i h; rw [prFrom_len]; exact (relIn_of h).tot
  · simp
end Go.Proofs.Ytfdjeflnjciloaa

namespace Go.Proofs.Ytfdjeflnjciloaa
open Go.Lg
set_option maxHeartbeats 1600000
set_option maxRecDepth 10000
set_option linter.unusedVariables false
set_option linter.unusedSimpArgs false

/-- The numbers of a set, below k. -/
def listTo (s : Nat) (k : Nat) : List Int := List.map (fun i : Nat => (i : Int)) (List.filter (fun i : Nat => s.testBit i) (List.range k))
def listN (s : Nat) : List Int := listTo s 40
theorem listTo_len (s k : Nat) : (listTo s k).length ≤ k := by
  unfold listTo
  rw [List.length_map]
  exact Nat.le_trans (List.length_filter_le _ _) (by simp)
theorem listTo_succ (s k : Nat) : listTo s (k + 1) = listTo s k ++ (match hasN s (k : Int) with | true => [(k : Int)] | false => []) := by
  unfold listTo hasN
  rw [List.range_succ, List.filter_append, List.map_append]
  congr 1
  simp only [List.filter_cons, List.filter_nil, Int.toNat_natCast]
  cases s.testBit k <;> rfl

theorem list_h (s : Nat) (hs : s < 2 ^ 64) : HSpec env.P 174 [uLV s] [] (.hs 0 ((listN s).map intLV).length) [.arr 3 1 ((listN s).map intLV)] := by
  refine HSpec_of_code (E := env.x [] 0) env_ok.x (fn := Try.f174) Try.func174 rfl Try.call174 _ _ _ _ ?_
  ((repeat ((conv => whnf); first | refine brT ?_ | refine brF ?_)); conv => whnf)
  refine loop_ruleR (α := Nat) [.nil 3 1] (fun k => [(5, .int .i64 (k : Int)), (3, .hs 0 ((listTo s k).map intLV).length)]) (fun k => [.arr 3 1 ((listTo s k).map intLV)])
    (fun k => 40 - k) (fun k => k ≤ 40) 0 (Nat.zero_le _) ?_ ?_
  · refine ⟨?_, ⟨rfl, rfl, trivial⟩, rfl⟩
    ((repeat ((conv => whnf); refine ⟨rfl, rfl, ?_⟩)); trivial)
  intro k hk
  ((repeat ((conv => whnf); first | refine brT ?_ | refine brF ?_)); conv => whnf)
  (refine ⟨fun h1 => ?_, fun h1 => ?_⟩ <;> rw [h1])
  · have hlt : k < 40 := by rw [ltI_t] at h1; omega
    have hsu := listTo_succ s k
    have hl := listTo_len s k
    have hl1 := listTo_len s (k + 1)
    have e : LV.int .i64 (IntKind.i64.wrap ((k : Int) + 1)) = LV.int .i64 ((k + 1 : Nat) : Int) := step_i (n := 40) hlt (by decide)
    ((repeat ((conv => whnf); first | refine brT ?_ | refine brF ?_)); conv => whnf)
    refine ⟨_, has_spec s k hs (by omega) (by omega), ?_⟩
    ((repeat ((conv => whnf); first | refine brT ?_ | refine brF ?_)); conv => whnf)
    (refine ⟨fun h2 => ?_, fun h2 => ?_⟩ <;> rw [h2])
    · rw [h2] at hsu
      have e2 : ((listTo s k).map intLV ++ [LV.int .i64 (k : Int)]) = (listTo s (k + 1)).map intLV := by rw [hsu, List.map_append]; rfl
      have e3 : LV.hs 0 ((listTo s k).map intLV ++ [LV.int .i64 (k : Int)]).length = LV.hs 0 ((listTo s (k + 1)).map intLV).length := by rw [e2]
      ((repeat ((conv => whnf); first | refine brT ?_ | refine brF ?_)); conv => whnf)
      refine ⟨rfl, rfl, by rw [e2]; unfold Go.maxLen; simp; omega, by rw [e2]; simp; omega, ?_⟩
      ((repeat ((conv => whnf); first | refine brT ?_ | refine brF ?_)); conv => whnf)
      refine round_endR [.old 2] (k + 1) hlt (by omega) ⟨?_, ⟨rfl, congrArg (Blk.arr 3 1) e2, trivial⟩, rfl⟩
      repeat ((conv => whnf); first | refine ⟨rfl, e, ?_⟩ | refine ⟨rfl, e3, ?_⟩ | refine ⟨rfl, rfl, ?_⟩)
      trivial
    · rw [h2, List.append_nil] at hsu
      have e3 : LV.hs 0 ((listTo s k).map intLV).length = LV.hs 0 ((listTo s (k + 1)).map intLV).length := by rw [hsu]
      ((repeat ((conv => whnf); first | refine brT ?_ | refine brF ?_)); conv => whnf)
      refine round_endR [.old 0] (k + 1) hlt (by omega) ⟨?_, ⟨rfl, congrArg (Blk.arr 3 1) (by rw [hsu]), trivial⟩, rfl⟩
      repeat ((conv => whnf); first | refine ⟨rfl, e, ?_⟩ | refine ⟨rfl, e3, ?_⟩ | refine ⟨rfl, rfl, ?_⟩)
      trivial
  · have h3 : k = 40 := by rw [ltI_f] at h1; omega
    subst h3
    ((repeat ((conv => whnf); first | refine brT ?_ | refine brF ?_)); conv => whnf)
    exact ⟨[.hs 0 ((listN s).map intLV).length], rfl, rfl, .inl ⟨⟨rfl, trivial⟩, ⟨rfl, trivial⟩, rfl, rfl⟩⟩

theorem listOf_h (s : Nat) (hs : s < 2 ^ 64) : HSpec env.P 173 [uLV s] [] (.hs 0 ((listN s).map intLV).length) [.arr 3 1 ((listN s).map intLV)] := by
  refine HSpec_of_code (E := env.x [174] 0) env_ok.x (fn := Try.f173) Try.func173 rfl Try.call173 _ _ _ _ ?_
  ((repeat ((conv => whnf); first | refine brT ?_ | refine brF ?_)); conv => whnf)
  refine ⟨[], _, _, _, _, list_h s hs, rfl, rfl, rfl, trivial, ?_⟩
  ((repeat ((conv => whnf); first | refine brT ?_ | refine brF ?_)); conv => whnf)
  exact ⟨[.hs 0 ((listN s).map intLV).length], rfl, rfl, .inl ⟨⟨rfl, trivial⟩, ⟨rfl, trivial⟩, rfl, rfl⟩⟩

/-- mapEach of sets of rows -/
theorem mapSets_h (rows : List (List Int)) (hr : ∀ r ∈ rows, inSize r ∧ r.length ≤ Go.maxLen) (hb : 8 * rows.length ≤ 281474976710656) :
    HSpec env.P 112 [.sl (rows.map rowSl), .clos 171 []] [] (.hs 0 (rows.map fun r => uLV (setN r)).length) [.arr 100 1 (rows.map fun r => uLV (setN r))] := by
  refine HSpec_of_code (E := env.x [] 0) env_ok.x (fn := Try.f112) Try.func112 rfl Try.call112 _ _ _ _ ?_
  ((repeat ((conv => whnf); first | refine brT ?_ | refine brF ?_)); conv => whnf)
  intro hp
  have hp' : rows.length ≤ Go.maxLen := by simpa using hp
  ((repeat ((conv => whnf); first | refine brT ?_ | refine brF ?_)); conv => whnf)
  refine ⟨rows.length, by simp, by simp, hb, hp', rfl, by decide, ?_⟩
  ((repeat ((conv => whnf); first | refine brT ?_ | refine brF ?_)); conv => whnf)
  intro _
  ((repeat ((conv => whnf); first | refine brT ?_ | refine brF ?_)); conv => whnf)
  refine loop_rule (α := Nat) (fun k => [(13, .int .i64 (k : Int))]) (fun k => [.arr 100 1 (fillLV (fun r => uLV (setN r)) (uLV 0) rows k)]) (fun k => rows.length - k) (fun k => k ≤ rows.length) 0 (Nat.zero_le _) ?_ ?_
  · refine ⟨?_, ⟨by simp [fillLV, uLV], trivial⟩, rfl, rfl⟩
    ((repeat ((conv => whnf); refine ⟨rfl, ?_⟩)); trivial)
  rintro k hk
  ((repeat ((conv => whnf); first | refine brT ?_ | refine brF ?_)); conv => whnf)
  (refine ⟨fun h1 => ?_, fun h1 => ?_⟩ <;> rw [h1])
  · have hlt : k < rows.length := by rw [ltI_t] at h1; simp at h1; omega
    have hrk := hr rows[k] (List.getElem_mem hlt)
    ((repeat ((conv => whnf); first | refine brT ?_ | refine brF ?_)); conv => whnf)
    refine ⟨k, rowSl rows[k], rfl, by simp [hlt], rfl, ?_⟩
    ((repeat ((conv => whnf); first | refine brT ?_ | refine brF ?_)); conv => whnf)
    refine ⟨_, setOf_spec rows[k] hrk.1 hrk.2, ?_⟩
    ((repeat ((conv => whnf); first | refine brT ?_ | refine brF ?_)); conv => whnf)
    refine ⟨(fill_len hk).symm, rfl, k, rfl, by rw [fill_len hk]; exact hlt, ?_⟩
    ((repeat ((conv => whnf); first | refine brT ?_ | refine brF ?_)); conv => whnf)
    refine ⟨(fill_len hk).symm, k, [], uLV 0, rfl, by simp [getP, fill_get hlt], rfl, rfl, rfl, fillLV (fun r => uLV (setN r)) (uLV 0) rows (k + 1), by rw [fill_get hlt]; exact fill_set hlt, ?_⟩
    ((repeat ((conv => whnf); first | refine brT ?_ | refine brF ?_)); conv => whnf)
    refine round_end (k + 1) hlt (by omega) ⟨?_, ⟨rfl, trivial⟩, rfl, rfl⟩
    have e := step_i hlt hp'
    ((repeat ((conv => whnf); first | refine ⟨e, ?_⟩ | refine ⟨rfl, ?_⟩)); trivial)
  · have h4 : k = rows.length := by rw [ltI_f] at h1; simp at h1; omega
    subst h4
    ((repeat ((conv => whnf); first | refine brT ?_ | refine brF ?_)); conv => whnf)
    exact ⟨[.hs 0 rows.length], by simp [tupOf], rfl, .inl ⟨⟨rfl, trivial⟩, ⟨congrArg (Blk.arr 100 1) fill_all, trivial⟩, rfl, rfl⟩⟩

/-- mapEach of rows of sets -/
theorem mapLists_h (ss : List Nat) (hs : ∀ s ∈ ss, s < 2 ^ 64) (hb : 24 * ss.length ≤ 281474976710656) :
    HSpec env.P 172 [.sl (ss.map uLV), .clos 173 []] [] (.hs 0 (ss.map fun s => rowOw (listN s)).length) [.tree 29 1 (ss.map fun s => rowOw (listN s))] := by
  refine HSpec_of_code (E := env.x [173] 0) env_ok.x (fn := Try.f172) Try.func172 rfl Try.call172 _ _ _ _ ?_
  ((repeat ((conv => whnf); first | refine brT ?_ | refine brF ?_)); conv => whnf)
  intro hp
  have hp' : ss.length ≤ Go.maxLen := by simpa using hp
  ((repeat ((conv => whnf); first | refine brT ?_ | refine brF ?_)); conv => whnf)
  refine ⟨ss.length, by simp, by simp, hb, hp', rfl, by decide, ?_⟩
  ((repeat ((conv => whnf); first | refine brT ?_ | refine brF ?_)); conv => whnf)
  intro _
  ((repeat ((conv => whnf); first | refine brT ?_ | refine brF ?_)); conv => whnf)
  refine loop_ruleR (α := Nat) [.old 0] (fun k => [(13, .int .i64 (k : Int))]) (fun k => [.tree 29 1 (fillLV (fun s => rowOw (listN s)) .nil ss k)]) (fun k => ss.length - k) (fun k => k ≤ ss.length) 0 (Nat.zero_le _) ?_ ?_
  · refine ⟨?_, ⟨rfl, by simp [fillLV, renB], trivial⟩, rfl⟩
    ((repeat ((conv => whnf); refine ⟨rfl, rfl, ?_⟩)); trivial)
  rintro k hk
  ((repeat ((conv => whnf); first | refine brT ?_ | refine brF ?_)); conv => whnf)
  (refine ⟨fun h1 => ?_, fun h1 => ?_⟩ <;> rw [h1])
  · have hlt : k < ss.length := by rw [ltI_t] at h1; simp at h1; omega
    ((repeat ((conv => whnf); first | refine brT ?_ | refine brF ?_)); conv => whnf)
    refine ⟨k, uLV ss[k], rfl, by simp [hlt], rfl, ?_⟩
    ((repeat ((conv => whnf); first | refine brT ?_ | refine brF ?_)); conv => whnf)
    refine ⟨[], _, _, _, _, listOf_h ss[k] (hs _ (List.getElem_mem hlt)), rfl, rfl, rfl, trivial, ?_⟩
    ((repeat ((conv => whnf); first | refine brT ?_ | refine brF ?_)); conv => whnf)
    refine ⟨(fill_len hk).symm, rfl, k, rfl, by rw [fill_len hk]; exact hlt, ?_⟩
    ((repeat ((conv => whnf); first | refine brT ?_ | refine brF ?_)); conv => whnf)
    refine ⟨rfl, ?_⟩
    ((repeat ((conv => whnf); first | refine brT ?_ | refine brF ?_)); conv => whnf)
    refine ⟨(fill_len hk).symm, rfl, .nil, .nil, fillLV (fun s => rowOw (listN s)) .nil ss (k + 1), fill_get hlt, rfl, rfl, fill_set hlt, ?_⟩
    ((repeat ((conv => whnf); first | refine brT ?_ | refine brF ?_)); conv => whnf)
    refine round_end (k + 1) hlt (by omega) ⟨?_, ⟨rfl, trivial⟩, rfl, rfl⟩
    have e := step_i hlt hp'
    ((repeat ((conv => whnf); first | refine ⟨e, ?_⟩ | refine ⟨rfl, ?_⟩)); trivial)
  · have h4 : k = ss.length := by rw [ltI_f] at h1; simp at h1; omega
    subst h4
    ((repeat ((conv => whnf); first | refine brT ?_ | refine brF ?_)); conv => whnf)
    exact ⟨[.hs 0 ss.length], by simp [tupOf], rfl, .inl ⟨⟨rfl, trivial⟩, ⟨congrArg (Blk.tree 29 1) fill_all, trivial⟩, rfl, rfl⟩⟩
end Go.Proofs.Ytfdjeflnjciloaa

namespace Go.Proofs.Ytfdjeflnjciloaa
open Go.Lg
set_option maxHeartbeats 1600000
set_option maxRecDepth 10000
set_option linter.unusedVariables false
set_option linter.unusedSimpArgs false

/-- The rows of what is related among n numbers. -/
def relRows (n : Nat) (P : Nat → Nat → Bool) : List (List Int) := (List.range n).map fun a => List.map (fun i : Nat => (i : Int)) (List.filter (fun b : Nat => P a b) (List.range n))
theorem relRows_len (n : Nat) (P : Nat → Nat → Bool) : (relRows n P).length = n := by simp [relRows]

theorem listTo_cut {s n : Nat} (h : ∀ i, n ≤ i → i < 40 → s.testBit i = false) (hn : n ≤ 40) : listN s = listTo s n := by
  have key : ∀ m, n ≤ m → m ≤ 40 → listTo s m = listTo s n := by
    intro m
    induction m with
    | zero => intro h1 _; have : n = 0 := by omega
              subst this; rfl
    | succ m ih =>
      intro h1 h2
      by_cases e : n = m + 1
      · subst e; rfl
      · rw [listTo_succ, ih (by omega) (by omega)]
        have : hasN s (m : Int) = false := by unfold hasN; simpa using h m (by omega) (by omega)
        rw [this]; simp
  exact key 40 hn (Nat.le_refl _)

/-- Sets of numbers, as rows. -/
theorem rows_of_sets {ss : List Nat} {n : Nat} {P : Nat → Nat → Bool} (hl : ss.length = n) (hn : n ≤ 40) (h : ∀ (a : Nat) (ha : a < ss.length) (b : Nat), b < 40 → ss[a].testBit b = (decide (b < n) && P a b)) :
    ss.map listN = relRows n P := by
  apply List.ext_getElem
  · simp [relRows, hl]
  · intro a h1 h2
    have ha : a < ss.length := by simpa using h1
    simp only [List.getElem_map, relRows, List.getElem_range]
    rw [listTo_cut (n := n) (fun i hi hi40 => by rw [h a ha i hi40]; simp; omega) hn]
    unfold listTo
    congr 1
    apply List.filter_congr
    intro b hb
    have hb : b < n := by simpa using hb
    rw [h a ha b (by omega)]; simp [hb]

theorem setsOf_h (n : Int) (rows : List (List Int)) (hr : ∀ r ∈ rows, inSize r ∧ r.length ≤ Go.maxLen) (hb : 8 * rows.length ≤ 281474976710656) :
    HSpec env.P 110 [relLV n rows] [] (.hs 0 (rows.map fun r => uLV (setN r)).length) [.arr 100 1 (rows.map fun r => uLV (setN r))] := by
  refine HSpec_of_code (E := env.x [112] 0) env_ok.x (fn := Try.f110) Try.func110 rfl Try.call110 _ _ _ _ ?_
  ((repeat ((conv => whnf); first | refine brT ?_ | refine brF ?_)); conv => whnf)
  refine ⟨[], _, _, _, _, mapSets_h rows hr hb, rfl, rfl, rfl, trivial, ?_⟩
  ((repeat ((conv => whnf); first | refine brT ?_ | refine brF ?_)); conv => whnf)
  exact ⟨[.hs 0 (rows.map fun r => uLV (setN r)).length], rfl, rfl, .inr ⟨[.old 1], ⟨rfl, rfl, trivial⟩, ⟨rfl, rfl, trivial⟩, rfl⟩⟩

theorem flatTs_rows : ∀ rows : List (List Int), flatTs (rows.map rowOw) = true
  | [] => rfl
  | r :: rs => by simp only [List.map_cons, flatTs, Bool.and_eq_true]; exact ⟨by simp only [rowOw, flatT1]; exact flats_ints r, flatTs_rows rs⟩

theorem relationOfSets_h (ss : List Nat) (hs : ∀ s ∈ ss, s < 2 ^ 64) (hb : 24 * ss.length ≤ 281474976710656) (hm : ss.length ≤ Go.maxLen) :
    HSpec env.P 111 [.sl (ss.map uLV)] [] (relHS ss.length 0 ((ss.map listN).map rowOw).length) [.tree 29 1 ((ss.map listN).map rowOw)] := by
  refine HSpec_of_code (E := env.x [172] 0) env_ok.x (fn := Try.f111) Try.func111 rfl Try.call111 _ _ _ _ ?_
  ((repeat ((conv => whnf); first | refine brT ?_ | refine brF ?_)); conv => whnf)
  refine ⟨[], _, _, _, _, mapLists_h ss hs hb, rfl, rfl, rfl, trivial, ?_⟩
  ((repeat ((conv => whnf); first | refine brT ?_ | refine brF ?_)); conv => whnf)
  intro _
  ((repeat ((conv => whnf); first | refine brT ?_ | refine brF ?_)); conv => whnf)
  refine ⟨[relHS ss.length 0 ((ss.map listN).map rowOw).length], rfl, rfl, .inr ⟨[.old 1], ?_, ?_, rfl⟩⟩
  · have e : LV.st [LV.int .i64 ((ss.map uLV).length : Int), LV.hs 0 (ss.map fun s => rowOw (listN s)).length] = relHS ss.length 0 ((ss.map listN).map rowOw).length := by simp [relHS]
    exact ⟨rfl, e, trivial⟩
  · exact ⟨rfl, congrArg (Blk.tree 29 1) (by rw [List.map_map]; rfl), trivial⟩

/-- Both valid, of one size. -/
def alike (n : Int) (rows : List (List Int)) (m : Int) (rows' : List (List Int)) : Bool := eqI n m && relOk n rows && relOk m rows'
theorem areAlike_spec (n : Int) (rows : List (List Int)) (m : Int) (rows' : List (List Int)) : FSpec env.P 109 [relLV n rows, relLV m rows'] (.bool (alike n rows m rows')) := by
  refine FSpec_of_code env_ok (fn := Try.f109) Try.func109 rfl Try.call109 _ _ ?_
  ((repeat' (((repeat ((conv => whnf); first | refine brT ?_ | refine brF ?_)); conv => whnf); first | (refine And.intro ?_ ?_ <;> (intro h; rw [h]; revert h; intro _)) | (refine Exists.intro true (And.intro (a := drawB _ _ = true) (by kernel_rfl) ?_)) | (refine Exists.intro _ (And.intro (isRelation_impl n rows) ?_)) | (refine Exists.intro _ (And.intro (isRelation_impl m rows') ?_)))); all_goals ((repeat ((conv => whnf); first | refine brT ?_ | refine brF ?_)); conv => whnf))
  all_goals (refine fin ?_; simp_all [alike])
theorem l2Both_spec (n : Int) (rows : List (List Int)) (m : Int) (rows' : List (List Int)) : FSpec env.P 117 [relLV n rows, relLV m rows'] (.bool (alike n rows m rows')) := by
  refine FSpec_of_code env_ok (fn := Try.f117) Try.func117 rfl Try.call117 _ _ ?_
  ((repeat' (((repeat ((conv => whnf); first | refine brT ?_ | refine brF ?_)); conv => whnf); first | (refine And.intro ?_ ?_ <;> (intro h; rw [h]; revert h; intro _)) | (refine Exists.intro true (And.intro (a := drawB _ _ = true) (by kernel_rfl) ?_)) | (refine Exists.intro _ (And.intro (isRelation_spec n rows) ?_)) | (refine Exists.intro _ (And.intro (isRelation_spec m rows') ?_)))); all_goals ((repeat ((conv => whnf); first | refine brT ?_ | refine brF ?_)); conv => whnf))
  all_goals (refine fin ?_; simp_all [alike])

/-! ### The model's tables -/
def bLV (b : Bool) : LV := .bool b
def lineOw (l : List Bool) : LV := .own 4 1 (l.map bLV)
def lineSl (l : List Bool) : LV := .sl (l.map bLV)
theorem dms_lines : ∀ g : List (List Bool), dms (g.map lineOw) = g.map lineSl
  | [] => rfl
  | r :: rs => by simp only [List.map_cons, dms, dms_lines rs]; rfl
def blank (n k : Nat) : List (List Bool) := List.replicate k (List.replicate n false)

theorem l2Blank_h (n : Nat) (hn : n ≤ 40) : HSpec env.P 155 [.int .i64 (n : Int)] [] (.hs 0 ((blank n n).map lineOw).length) [.tree 139 1 ((blank n n).map lineOw)] := by
  refine HSpec_of_code (E := env.x [] 0) env_ok.x (fn := Try.f155) Try.func155 rfl Try.call155 _ _ _ _ ?_
  ((repeat ((conv => whnf); first | refine brT ?_ | refine brF ?_)); conv => whnf)
  refine loop_ruleR (α := Nat) [.old 0] (fun k => [(5, .undef), (4, .int .i64 (k : Int)), (3, .hs 0 ((blank n k).map lineOw).length)]) (fun k => [.tree 139 1 ((blank n k).map lineOw)]) (fun k => n - k) (fun k => k ≤ n) 0 (Nat.zero_le _) ?_ ?_
  · refine ⟨?_, ⟨rfl, rfl, trivial⟩, rfl⟩
    ((repeat ((conv => whnf); refine ⟨rfl, rfl, ?_⟩)); trivial)
  intro k hk
  ((repeat ((conv => whnf); first | refine brT ?_ | refine brF ?_)); conv => whnf)
  (refine ⟨fun h1 => ?_, fun h1 => ?_⟩ <;> rw [h1])
  · have hlt : k < n := by rw [ltI_t] at h1; omega
    have e : LV.int .i64 (IntKind.i64.wrap ((k : Int) + 1)) = LV.int .i64 ((k + 1 : Nat) : Int) := step_i (n := 40) (by omega) (by decide)
    have e2 : (blank n k).map lineOw ++ [LV.own 4 1 (List.replicate n (.bool false))] = (blank n (k + 1)).map lineOw := by
      unfold blank
      rw [List.replicate_succ', List.map_append]
      simp [lineOw, bLV]
    have e3 : LV.hs 0 ((blank n k).map lineOw ++ [LV.own 4 1 (List.replicate n (.bool false))]).length = LV.hs 0 ((blank n (k + 1)).map lineOw).length := by rw [e2]
    ((repeat ((conv => whnf); first | refine brT ?_ | refine brF ?_)); conv => whnf)
    refine ⟨n, rfl, rfl, by show 1 * n ≤ _; omega, by unfold Go.maxLen; omega, rfl, by decide, ?_⟩
    ((repeat ((conv => whnf); first | refine brT ?_ | refine brF ?_)); conv => whnf)
    refine ⟨by simp, ?_⟩
    ((repeat ((conv => whnf); first | refine brT ?_ | refine brF ?_)); conv => whnf)
    refine ⟨rfl, ?_⟩
    ((repeat ((conv => whnf); first | refine brT ?_ | refine brF ?_)); conv => whnf)
    refine ⟨rfl, by show (_ ++ [LV.own 4 1 _]).length ≤ _; rw [e2]; unfold Go.maxLen; simp [blank]; omega, by show (_ ++ [LV.own 4 1 _]).length * 24 ≤ _; rw [e2]; simp [blank]; omega, ?_⟩
    ((repeat ((conv => whnf); first | refine brT ?_ | refine brF ?_)); conv => whnf)
    refine round_endR [.old 3] (k + 1) hlt (by omega) ⟨?_, ⟨rfl, congrArg (Blk.tree 139 1) e2, trivial⟩, rfl⟩
    repeat ((conv => whnf); first | refine ⟨rfl, e, ?_⟩ | refine ⟨rfl, e3, ?_⟩ | refine ⟨rfl, rfl, ?_⟩)
    trivial
  · have h3 : k = n := by rw [ltI_f] at h1; omega
    subst h3
    ((repeat ((conv => whnf); first | refine brT ?_ | refine brF ?_)); conv => whnf)
    exact ⟨[.hs 0 ((blank k k).map lineOw).length], rfl, rfl, .inl ⟨⟨rfl, trivial⟩, ⟨rfl, trivial⟩, rfl, rfl⟩⟩

end Go.Proofs.Ytfdjeflnjciloaa

namespace Go.Proofs.Ytfdjeflnjciloaa
open Go.Lg
set_option maxHeartbeats 1600000
set_option maxRecDepth 10000
set_option linter.unusedVariables false
set_option linter.unusedSimpArgs false

/-- The places of a line that are true, below k. -/
def lineTo (l : List Bool) (k : Nat) : List Int := List.map (fun i : Nat => (i : Int)) (List.filter (fun i : Nat => l.getD i false) (List.range k))
def lineN (l : List Bool) : List Int := lineTo l l.length
theorem lineTo_len (l : List Bool) (k : Nat) : (lineTo l k).length ≤ k := by
  unfold lineTo
  rw [List.length_map]
  exact Nat.le_trans (List.length_filter_le _ _) (by simp)
theorem lineTo_succ {l : List Bool} {k : Nat} (h : k < l.length) : lineTo l (k + 1) = lineTo l k ++ (match l[k] with | true => [(k : Int)] | false => []) := by
  unfold lineTo
  rw [List.range_succ, List.filter_append, List.map_append]
  congr 1
  have : l.getD k false = l[k] := by simp [List.getD_eq_getElem?_getD, h]
  simp only [List.filter_cons, List.filter_nil, this]
  cases l[k] <;> rfl

theorem l2Of_h (g : List (List Bool)) (hg : g.length ≤ 40) (hl : ∀ l ∈ g, l.length ≤ 40) :
    HSpec env.P 154 [.sl (g.map lineSl)] [] (relHS g.length 0 ((g.map lineN).map rowOw).length) [.tree 29 1 ((g.map lineN).map rowOw)] := by
  refine HSpec_of_code (E := env.x [] 0) env_ok.x (fn := Try.f154) Try.func154 rfl Try.call154 _ _ _ _ ?_
  have hgl : (g.map lineSl).length = g.length := by simp
  ((repeat ((conv => whnf); first | refine brT ?_ | refine brF ?_)); conv => whnf)
  intro hm
  rw [hgl]
  ((repeat ((conv => whnf); first | refine brT ?_ | refine brF ?_)); conv => whnf)
  intro _
  rw [hgl]
  ((repeat ((conv => whnf); first | refine brT ?_ | refine brF ?_)); conv => whnf)
  refine loop_ruleN (α := Nat) [.box 1 [1] true 29 1] [.old 0, .old 1, .old 2] (fun k => [(14, .int .i64 (k : Int))])
    (fun k => [.box (.st [.int .i64 0, .nil]), .box (.st [.int .i64 (g.length : Int), .hs 2 (((g.take k).map lineN).map rowOw).length]), .tree 29 1 (((g.take k).map lineN).map rowOw)]) (fun k => g.length - k) (fun k => k ≤ g.length) 0 (Nat.zero_le _) ?_ ?_
  · refine ⟨?_, ⟨rfl, rfl, rfl, rfl, rfl, rfl, trivial⟩, rfl⟩
    ((repeat ((conv => whnf); refine ⟨rfl, rfl, ?_⟩)); trivial)
  intro k hk
  ((repeat ((conv => whnf); first | refine brT ?_ | refine brF ?_)); conv => whnf)
  (refine ⟨fun h1 => ?_, fun h1 => ?_⟩ <;> rw [h1])
  · have hlt : k < g.length := by rw [ltI_t] at h1; omega
    have e := step_i (n := g.length) hlt (by unfold Go.maxLen; omega)
    have hll := hl g[k] (List.getElem_mem hlt)
    have hgk : (g.map lineSl)[k]? = some (lineSl g[k]) := by simp [hlt]
    have htk : g.take (k + 1) = g.take k ++ [g[k]] := List.take_succ_eq_append_getElem hlt
    generalize g[k] = l at hll hgk htk
    ((repeat ((conv => whnf); first | refine brT ?_ | refine brF ?_)); conv => whnf)
    refine ⟨k, lineSl l, rfl, hgk, rfl, ?_⟩
    ((repeat ((conv => whnf); first | refine brT ?_ | refine brF ?_)); conv => whnf)
    intro hml
    ((repeat ((conv => whnf); first | refine brT ?_ | refine brF ?_)); conv => whnf)
    refine loop_rule (α := Nat) (fun i => [(18, .undef), (21, .int .i64 (i : Int)), (6, .hs 3 ((lineTo l i).map intLV).length)])
      (fun i => [.box (.st [.int .i64 0, .nil]), .box (.st [.int .i64 (g.length : Int), .hs 2 (((g.take k).map lineN).map rowOw).length]), .tree 29 1 (((g.take k).map lineN).map rowOw), .arr 3 1 ((lineTo l i).map intLV)]) (fun i => l.length - i) (fun i => i ≤ l.length) 0 (Nat.zero_le _) ?_ ?_
    · refine ⟨?_, ⟨rfl, rfl, rfl, rfl, trivial⟩, rfl, rfl⟩
      ((repeat ((conv => whnf); refine ⟨rfl, ?_⟩)); trivial)
    intro i hi
    generalize hKK : kk _ = KK
    ((repeat ((conv => whnf); first | refine brT ?_ | refine brF ?_)); conv => whnf)
    (refine ⟨fun h2 => ?_, fun h2 => ?_⟩ <;> rw [h2])
    · have hil : i < l.length := by rw [ltI_t] at h2; simp at h2; omega
      have e' := step_i (n := l.length) hil (by unfold Go.maxLen; omega)
      have hsu := lineTo_succ hil
      have hl0 := lineTo_len l i
      have hl1 := lineTo_len l (i + 1)
      ((repeat ((conv => whnf); first | refine brT ?_ | refine brF ?_)); conv => whnf)
      refine ⟨i, bLV l[i], rfl, by simp [hil], rfl, ?_⟩
      ((repeat ((conv => whnf); first | refine brT ?_ | refine brF ?_)); conv => whnf)
      (refine ⟨fun h3 => ?_, fun h3 => ?_⟩ <;> rw [h3])
      · rw [h3] at hsu
        have e2 : ((lineTo l i).map intLV ++ [LV.int .i64 (i : Int)]) = (lineTo l (i + 1)).map intLV := by rw [hsu, List.map_append]; rfl
        have e3 : LV.hs 3 ((lineTo l i).map intLV ++ [LV.int .i64 (i : Int)]).length = LV.hs 3 ((lineTo l (i + 1)).map intLV).length := by rw [e2]
        ((repeat ((conv => whnf); first | refine brT ?_ | refine brF ?_)); conv => whnf)
        refine ⟨rfl, rfl, by rw [e2]; unfold Go.maxLen; simp; omega, by rw [e2]; simp; omega, ?_⟩
        ((repeat ((conv => whnf); first | refine brT ?_ | refine brF ?_)); conv => whnf)
        refine round_endR [.old 0, .old 1, .old 2, .old 5] (i + 1) hil (by omega) ⟨?_, ⟨rfl, rfl, rfl, rfl, rfl, rfl, rfl, congrArg (Blk.arr 3 1) e2, trivial⟩, rfl⟩
        repeat ((conv => whnf); first | refine ⟨rfl, e', ?_⟩ | refine ⟨rfl, e3, ?_⟩ | refine ⟨rfl, rfl, ?_⟩)
        trivial
      · rw [h3, List.append_nil] at hsu
        have e3 : LV.hs 3 ((lineTo l i).map intLV).length = LV.hs 3 ((lineTo l (i + 1)).map intLV).length := by rw [hsu]
        ((repeat ((conv => whnf); first | refine brT ?_ | refine brF ?_)); conv => whnf)
        refine round_endR [.old 0, .old 1, .old 2, .old 3] (i + 1) hil (by omega) ⟨?_, ⟨rfl, rfl, rfl, rfl, rfl, rfl, rfl, congrArg (Blk.arr 3 1) (by rw [hsu]), trivial⟩, rfl⟩
        repeat ((conv => whnf); first | refine ⟨rfl, e', ?_⟩ | refine ⟨rfl, e3, ?_⟩ | refine ⟨rfl, rfl, ?_⟩)
        trivial
    · have hil : i = l.length := by rw [ltI_f] at h2; simp at h2; omega
      subst hil
      have e4 : (((g.take k).map lineN).map rowOw ++ [LV.own 3 1 ((lineTo l l.length).map intLV)]) = ((g.take (k + 1)).map lineN).map rowOw := by
        rw [htk, List.map_append, List.map_append]; rfl
      have hkl : (((g.take (k + 1)).map lineN).map rowOw).length = k + 1 := by simp; omega
      subst hKK
      ((repeat ((conv => whnf); first | refine brT ?_ | refine brF ?_)); conv => whnf)
      refine ⟨rfl, ?_⟩
      ((repeat ((conv => whnf); first | refine brT ?_ | refine brF ?_)); conv => whnf)
      refine ⟨rfl, rfl, by show (_ ++ [LV.own 3 1 _]).length ≤ _; rw [e4, hkl]; unfold Go.maxLen; omega, by show (_ ++ [LV.own 3 1 _]).length * 24 ≤ _; rw [e4, hkl]; omega, ?_⟩
      ((repeat ((conv => whnf); first | refine brT ?_ | refine brF ?_)); conv => whnf)
      have e := step_i (n := g.length) hlt (by unfold Go.maxLen; omega)
      have e5 : LV.st [LV.int .i64 (g.length : Int), LV.hs 2 (((g.take k).map lineN).map rowOw ++ [LV.own 3 1 ((lineTo l l.length).map intLV)]).length] = LV.st [LV.int .i64 (g.length : Int), LV.hs 2 (((g.take (k + 1)).map lineN).map rowOw).length] := by rw [e4]
      refine round_endR [.old 0, .old 1, .old 5] (k + 1) hlt (by omega) ⟨?_, ⟨rfl, rfl, rfl, congrArg Blk.box e5, rfl, congrArg (Blk.tree 29 1) e4, trivial⟩, rfl⟩
      repeat ((conv => whnf); first | refine ⟨rfl, e, ?_⟩ | refine ⟨rfl, rfl, ?_⟩)
      trivial
  · have h3 : k = g.length := by rw [ltI_f] at h1; omega
    subst h3
    ((repeat ((conv => whnf); first | refine brT ?_ | refine brF ?_)); conv => whnf)
    refine ⟨[relHS g.length 0 (((g.take g.length).map lineN).map rowOw).length], by simp [tupOf], rfl, .inr ⟨[.old 2], ⟨rfl, rfl, trivial⟩, ⟨rfl, congrArg (Blk.tree 29 1) (by rw [List.take_length]), trivial⟩, rfl⟩⟩
end Go.Proofs.Ytfdjeflnjciloaa

namespace Go.Proofs.Ytfdjeflnjciloaa
open Go.Lg
set_option maxHeartbeats 1600000
set_option maxRecDepth 10000
set_option linter.unusedVariables false
set_option linter.unusedSimpArgs false

/-- The relation in which nobody is related, among n numbers. -/
def empN (n : Int) : Nat := if 0 ≤ n ∧ n ≤ 40 then n.toNat else 0
def empR (k : Nat) : List (List Int) := List.replicate k []
theorem empN_le (n : Int) : empN n ≤ 40 := by unfold empN; split <;> omega
theorem empN_ok {n : Int} (h0 : 0 ≤ n) (h1 : n ≤ 40) : n = (empN n : Int) := by unfold empN; rw [if_pos ⟨h0, h1⟩]; omega
theorem empN_no {n : Int} (h : ¬ (0 ≤ n ∧ n ≤ 40)) : empN n = 0 := by unfold empN; rw [if_neg h]
theorem lineN_false (n : Nat) : lineN (List.replicate n false) = [] := by
  unfold lineN lineTo
  rw [List.map_eq_nil_iff, List.filter_eq_nil_iff]
  intro i hi
  simp [List.getD_eq_getElem?_getD, List.getElem?_replicate]
  split <;> simp
theorem blank_lines (n k : Nat) : (blank n k).map lineN = empR k := by
  unfold blank empR
  rw [List.map_replicate, lineN_false]
theorem listN_zero : listN 0 = [] := by decide

theorem isSize_ok {n : Int} (h : notB (leI 0 n && leI n 40) = false) : 0 ≤ n ∧ n ≤ 40 := by
  rw [notB_f, Bool.and_eq_true] at h
  exact ⟨leI_t.1 h.1, leI_t.1 h.2⟩
theorem isSize_no {n : Int} (h : notB (leI 0 n && leI n 40) = true) : ¬ (0 ≤ n ∧ n ≤ 40) := by
  rw [notB_t] at h
  rintro ⟨a, b⟩
  rw [leI_t.2 a, leI_t.2 b] at h
  cases h

theorem specEmpty_h (n : Int) : HSpec env.P 73 [.int .i64 n] [] (relHS (empN n : Nat) 0 ((empR (empN n)).map rowOw).length) [.tree 29 1 ((empR (empN n)).map rowOw)] := by
  refine HSpec_of_code (E := env.x [155, 154] 0) env_ok.x (fn := Try.f73) Try.func73 rfl Try.call73 _ _ _ _ ?_
  ((repeat ((conv => whnf); first | refine brT ?_ | refine brF ?_)); conv => whnf)
  refine ⟨_, l1In_spec n 0 40, ?_⟩
  ((repeat ((conv => whnf); first | refine brT ?_ | refine brF ?_)); conv => whnf)
  (refine ⟨fun h => ?_, fun h => ?_⟩ <;> rw [h])
  · ((repeat ((conv => whnf); first | refine brT ?_ | refine brF ?_)); conv => whnf)
    rw [empN_no (isSize_no h)]
    exact ⟨[relHS 0 0 0], rfl, rfl, .nl [.tmp 0 [1] true 29 1] [.old 1] ⟨⟨rfl, rfl, trivial⟩, ⟨rfl, rfl, trivial⟩, rfl⟩⟩
  · obtain ⟨h0, h1⟩ := isSize_ok h
    have hn := empN_ok h0 h1
    have hk := empN_le n
    generalize empN n = k at hn hk
    subst hn
    ((repeat ((conv => whnf); first | refine brT ?_ | refine brF ?_)); conv => whnf)
    refine ⟨[], _, _, _, _, l2Blank_h k hk, rfl, rfl, rfl, trivial, ?_⟩
    ((repeat ((conv => whnf); first | refine brT ?_ | refine brF ?_)); conv => whnf)
    refine ⟨[], _, _, _, _, l2Of_h (blank k k) (by simp [blank]; omega) (by intro l hl; rw [List.eq_of_mem_replicate hl]; simp; omega), rfl, ?_⟩
    ((repeat ((conv => whnf); first | refine brT ?_ | refine brF ?_)); conv => whnf)
    refine ⟨rfl, _, dms_lines _, ?_⟩
    ((repeat ((conv => whnf); first | refine brT ?_ | refine brF ?_)); conv => whnf)
    refine ⟨rfl, rfl, ⟨rfl, flatTs_rows _, trivial⟩, ?_⟩
    ((repeat ((conv => whnf); first | refine brT ?_ | refine brF ?_)); conv => whnf)
    have e : (blank k k).length = k := by simp [blank]
    refine ⟨[relHS (blank k k).length 0 (((blank k k).map lineN).map rowOw).length], by rw [blank_lines, e]; rfl, rfl, .inr ⟨[.old 2], ⟨rfl, by rw [blank_lines, e]; rfl, trivial⟩, ⟨rfl, congrArg (Blk.tree 29 1) (by rw [blank_lines]), trivial⟩, rfl⟩⟩

theorem implEmpty_h (n : Int) : HSpec env.P 74 [.int .i64 n] [] (relHS (empN n : Nat) 0 ((empR (empN n)).map rowOw).length) [.tree 29 1 ((empR (empN n)).map rowOw)] := by
  refine HSpec_of_code (E := env.x [111] 0) env_ok.x (fn := Try.f74) Try.func74 rfl Try.call74 _ _ _ _ ?_
  ((repeat ((conv => whnf); first | refine brT ?_ | refine brF ?_)); conv => whnf)
  refine ⟨_, isSize_spec n, ?_⟩
  ((repeat ((conv => whnf); first | refine brT ?_ | refine brF ?_)); conv => whnf)
  (refine ⟨fun h => ?_, fun h => ?_⟩ <;> rw [h])
  · ((repeat ((conv => whnf); first | refine brT ?_ | refine brF ?_)); conv => whnf)
    rw [empN_no (isSize_no h)]
    exact ⟨[relHS 0 0 0], rfl, rfl, .nl [.tmp 0 [1] true 29 1] [.old 1] ⟨⟨rfl, rfl, trivial⟩, ⟨rfl, rfl, trivial⟩, rfl⟩⟩
  · obtain ⟨h0, h1⟩ := isSize_ok h
    have hn := empN_ok h0 h1
    have hk := empN_le n
    generalize empN n = k at hn hk
    subst hn
    ((repeat ((conv => whnf); first | refine brT ?_ | refine brF ?_)); conv => whnf)
    refine ⟨k, rfl, rfl, by show 8 * k ≤ _; omega, by unfold Go.maxLen; omega, rfl, by decide, ?_⟩
    ((repeat ((conv => whnf); first | refine brT ?_ | refine brF ?_)); conv => whnf)
    have ez : List.replicate k (LV.int .u64 0) = (List.replicate k 0).map uLV := by simp [uLV]
    rw [ez]
    refine ⟨[], _, _, _, _, relationOfSets_h (List.replicate k 0) (by intro s hs; rw [List.eq_of_mem_replicate hs]; decide) (by simp; omega) (by simp [Go.maxLen]; omega), rfl, ?_⟩
    ((repeat ((conv => whnf); first | refine brT ?_ | refine brF ?_)); conv => whnf)
    refine ⟨by simp, ?_⟩
    ((repeat ((conv => whnf); first | refine brT ?_ | refine brF ?_)); conv => whnf)
    refine ⟨rfl, rfl, ⟨rfl, flatTs_rows _, trivial⟩, ?_⟩
    ((repeat ((conv => whnf); first | refine brT ?_ | refine brF ?_)); conv => whnf)
    have e : (List.replicate k 0).length = k := by simp
    have e1 : (List.replicate k 0).map listN = empR k := by unfold empR; rw [List.map_replicate, listN_zero]
    refine ⟨[relHS (List.replicate k 0).length 0 (((List.replicate k 0).map listN).map rowOw).length], by rw [e1, e]; rfl, rfl, .inr ⟨[.old 2], ⟨rfl, by rw [e1, e]; rfl, trivial⟩, ⟨rfl, congrArg (Blk.tree 29 1) (by rw [e1]), trivial⟩, rfl⟩⟩

theorem empR_flat (k : Nat) : tot (empR k) = 0 := by
  unfold empR
  induction k with
  | zero => rfl
  | succ k ih => rw [List.replicate_succ, tot_cons, ih]; rfl
theorem empR_mark (j : Int) : ∀ k : Nat, markRows j (empR k) = empR k := by
  intro k
  unfold empR
  induction k generalizing j with
  | zero => rfl
  | succ k ih => rw [List.replicate_succ]; simp only [markRows]; rw [ih]; rfl

theorem law_emptyRelation (n : Int) : FSpec env.P 13 [.int .i64 n] (.bool true) := by
  refine FSpec_of_code (E := env.x [73, 74, 75] 0) env_ok.x (fn := Try.f13) Try.func13 rfl Try.call13 _ _ ?_
  have hk := empN_le n
  ((repeat ((conv => whnf); first | refine brT ?_ | refine brF ?_)); conv => whnf)
  refine ⟨[], _, _, _, _, specEmpty_h n, rfl, rfl, rfl, trivial, ?_⟩
  ((repeat ((conv => whnf); first | refine brT ?_ | refine brF ?_)); conv => whnf)
  refine ⟨[], _, _, _, _, implEmpty_h n, rfl, rfl, rfl, trivial, ?_⟩
  ((repeat ((conv => whnf); first | refine brT ?_ | refine brF ?_)); conv => whnf)
  refine ⟨rfl, _, dms_rows _, ?_⟩
  ((repeat ((conv => whnf); first | refine brT ?_ | refine brF ?_)); conv => whnf)
  refine ⟨rfl, _, dms_rows _, ?_⟩
  ((repeat ((conv => whnf); first | refine brT ?_ | refine brF ?_)); conv => whnf)
  refine ⟨_, eqRelation_spec _ _ _ _, ?_⟩
  rw [eqRel_refl]
  ((repeat ((conv => whnf); first | refine brT ?_ | refine brF ?_)); conv => whnf)
  rw [show notB true = false by simp [notB]]
  ((repeat ((conv => whnf); first | refine brT ?_ | refine brF ?_)); conv => whnf)
  have ht := empR_flat (empN n)
  refine ⟨[2], _, _, _, _, markRelation_spec _ _ _ rfl 1 (by omega) (by omega), rfl, rfl, rfl, trivial, ?_⟩
  ((repeat ((conv => whnf); first | refine brT ?_ | refine brF ?_)); conv => whnf)
  refine ⟨by simp [markRows_len], _, dms_rows _, ?_⟩
  ((repeat ((conv => whnf); first | refine brT ?_ | refine brF ?_)); conv => whnf)
  refine ⟨_, heldRelation_spec _ (empR (empN n)) 1 (by omega) (by omega), ?_⟩
  ((repeat ((conv => whnf); first | refine brT ?_ | refine brF ?_)); conv => whnf)
  rw [show ltI (1 + (tot (empR (empN n)) : Int)) 0 = false by rw [ltI_f]; omega]
  ((repeat ((conv => whnf); first | refine brT ?_ | refine brF ?_)); conv => whnf)
  rw [eqI_refl, show notB true = false by simp [notB]]
  ((repeat ((conv => whnf); first | refine brT ?_ | refine brF ?_)); conv => whnf)
  refine ⟨[], _, _, _, _, implEmpty_h n, rfl, rfl, rfl, trivial, ?_⟩
  ((repeat ((conv => whnf); first | refine brT ?_ | refine brF ?_)); conv => whnf)
  refine ⟨rfl, _, dms_rows _, ?_⟩
  ((repeat ((conv => whnf); first | refine brT ?_ | refine brF ?_)); conv => whnf)
  refine ⟨rfl, _, dms_rows _, ?_⟩
  ((repeat ((conv => whnf); first | refine brT ?_ | refine brF ?_)); conv => whnf)
  refine ⟨_, eqRelation_spec _ _ _ _, ?_⟩
  rw [eqRel_refl]
  ((repeat ((conv => whnf); first | refine brT ?_ | refine brF ?_)); conv => whnf)
  rw [show notB true = false by simp [notB]]
  ((repeat ((conv => whnf); first | refine brT ?_ | refine brF ?_)); conv => whnf)
  refine ⟨by simp [markRows_len], _, dms_rows _, ?_⟩
  ((repeat ((conv => whnf); first | refine brT ?_ | refine brF ?_)); conv => whnf)
  refine ⟨_, heldRelation_spec _ (empR (empN n)) 1 (by omega) (by omega), ?_⟩
  ((repeat ((conv => whnf); first | refine brT ?_ | refine brF ?_)); conv => whnf)
  rw [show ltI (1 + (tot (empR (empN n)) : Int)) 0 = false by rw [ltI_f]; omega]
  ((repeat ((conv => whnf); first | refine brT ?_ | refine brF ?_)); conv => whnf)
  rw [eqI_refl, show notB true = false by simp [notB]]
  ((repeat ((conv => whnf); first | refine brT ?_ | refine brF ?_)); conv => whnf)
  exact fin rfl
end Go.Proofs.Ytfdjeflnjciloaa

namespace Go.Proofs.Ytfdjeflnjciloaa
open Go.Lg
set_option maxHeartbeats 1600000
set_option maxRecDepth 10000
set_option linter.unusedVariables false
set_option linter.unusedSimpArgs false

/-- What the table says of a and b when k rows are done, and i numbers of the next. -/
def gAt (rows : List (List Int)) (k i a b : Nat) : Bool := decide ((a < k ∧ (b : Int) ∈ rows.getD a []) ∨ (a = k ∧ (b : Int) ∈ (rows.getD k []).take i))
def gridTo (rows : List (List Int)) (k i : Nat) : List (List Bool) := (List.range rows.length).map fun a => (List.range rows.length).map fun b => gAt rows k i a b
def gridL (rows : List (List Int)) : List (List Bool) := gridTo rows rows.length 0
theorem gridTo_len (rows : List (List Int)) (k i : Nat) : (gridTo rows k i).length = rows.length := by simp [gridTo]
theorem gridTo_zero (rows : List (List Int)) : gridTo rows 0 0 = blank rows.length rows.length := by
  unfold gridTo blank
  apply List.ext_getElem
  · simp
  · intro a h1 h2
    simp only [List.getElem_map, List.getElem_range, List.getElem_replicate]
    apply List.ext_getElem
    · simp
    · intro b h3 h4
      simp [gAt]
theorem gridTo_row {rows : List (List Int)} {k : Nat} (hk : k < rows.length) : gridTo rows k rows[k].length = gridTo rows (k + 1) 0 := by
  unfold gridTo
  have hg : rows.getD k [] = rows[k] := by simp [List.getD_eq_getElem?_getD, hk]
  apply List.map_congr_left
  intro a _
  apply List.map_congr_left
  intro b _
  unfold gAt
  rw [hg, List.take_length, decide_eq_decide]
  constructor
  · rintro (⟨h1, h2⟩ | ⟨h1, h2⟩)
    · exact .inl ⟨by omega, h2⟩
    · subst h1; exact .inl ⟨by omega, by rw [hg]; exact h2⟩
  · rintro (⟨h1, h2⟩ | ⟨h1, h2⟩)
    · by_cases e : a = k
      · subst e; rw [hg] at h2; exact .inr ⟨rfl, h2⟩
      · exact .inl ⟨by omega, h2⟩
    · simp at h2
def gLine (rows : List (List Int)) (k i : Nat) : List Bool := (List.range rows.length).map fun b => gAt rows k i k b
theorem gLine_len (rows : List (List Int)) (k i : Nat) : (gLine rows k i).length = rows.length := by simp [gLine]
theorem gridTo_get {rows : List (List Int)} {k i : Nat} (hk : k < rows.length) : (gridTo rows k i)[k]? = some (gLine rows k i) := by
  simp [gridTo, gLine, hk]
theorem gLine_set {rows : List (List Int)} {k i b : Nat} (hk : k < rows.length) (hi : i < rows[k].length) (hb : rows[k][i] = (b : Int)) : (gLine rows k i).set b true = gLine rows k (i + 1) := by
  have hg : rows.getD k [] = rows[k] := by simp [List.getD_eq_getElem?_getD, hk]
  apply List.ext_getElem
  · simp [gLine]
  · intro c h1 h2
    rw [List.getElem_set]
    simp only [gLine, List.getElem_map, List.getElem_range, gAt, hg, List.take_succ_eq_append_getElem hi, List.mem_append, List.mem_singleton, hb]
    split
    · rename_i e; subst e; simp
    · rename_i e
      rw [decide_eq_decide]
      have : ¬ ((c : Int) = (b : Int)) := by omega
      simp [this]
theorem gridTo_set {rows : List (List Int)} {k i b : Nat} (hk : k < rows.length) (hi : i < rows[k].length) (hb : rows[k][i] = (b : Int)) : (gridTo rows k i).set k (gLine rows k (i + 1)) = gridTo rows k (i + 1) := by
  have hg : rows.getD k [] = rows[k] := by simp [List.getD_eq_getElem?_getD, hk]
  apply List.ext_getElem
  · simp [gridTo]
  · intro a h1 h2
    rw [List.getElem_set]
    split
    · rename_i e; subst e; simp [gridTo, gLine]
    · rename_i e
      simp only [gridTo, List.getElem_map, List.getElem_range]
      apply List.map_congr_left
      intro c _
      unfold gAt
      rw [decide_eq_decide]
      have : ¬ (a = k) := fun h => e h.symm
      simp [this]

theorem l2Grid_h (rows : List (List Int)) (hr : RelIn rows.length rows) :
    HSpec env.P 119 [relLV rows.length rows] [] (.hs 0 ((gridL rows).map lineOw).length) [.tree 139 1 ((gridL rows).map lineOw)] := by
  refine HSpec_of_code (E := env.x [155] 0) env_ok.x (fn := Try.f119) Try.func119 rfl Try.call119 _ _ _ _ ?_
  have hN : rows.length ≤ 40 := by have := hr.hi; omega
  ((repeat ((conv => whnf); first | refine brT ?_ | refine brF ?_)); conv => whnf)
  refine ⟨[], _, _, _, _, l2Blank_h rows.length hN, rfl, rfl, rfl, trivial, ?_⟩
  ((repeat ((conv => whnf); first | refine brT ?_ | refine brF ?_)); conv => whnf)
  intro hm
  have hm' : rows.length ≤ Go.maxLen := by simpa using hm
  ((repeat ((conv => whnf); first | refine brT ?_ | refine brF ?_)); conv => whnf)
  refine loop_ruleR (α := Nat) [.old 0, .old 1] (fun k => [(10, .undef), (14, .int .i64 (k : Int)), (3, .hs 1 ((gridTo rows k 0).map lineOw).length)]) (fun k => [.box (relLV rows.length rows), .tree 139 1 ((gridTo rows k 0).map lineOw)]) (fun k => rows.length - k) (fun k => k ≤ rows.length) 0 (Nat.zero_le _) ?_ ?_
  · refine ⟨?_, ⟨rfl, rfl, rfl, congrArg (Blk.tree 139 1) (by rw [gridTo_zero]), trivial⟩, rfl⟩
    have e3 : LV.hs 1 ((blank rows.length rows.length).map lineOw).length = LV.hs 1 ((gridTo rows 0 0).map lineOw).length := by rw [gridTo_zero]
    ((repeat ((conv => whnf); first | refine ⟨rfl, e3, ?_⟩ | refine ⟨rfl, rfl, ?_⟩)); trivial)
  intro k hk
  ((repeat ((conv => whnf); first | refine brT ?_ | refine brF ?_)); conv => whnf)
  (refine ⟨fun h1 => ?_, fun h1 => ?_⟩ <;> rw [h1])
  · have hlt : k < rows.length := by rw [ltI_t] at h1; simp at h1; omega
    have e1 := step_i hlt hm'
    ((repeat ((conv => whnf); first | refine brT ?_ | refine brF ?_)); conv => whnf)
    refine ⟨k, rowSl rows[k], rfl, by simp [hlt], rfl, ?_⟩
    ((repeat ((conv => whnf); first | refine brT ?_ | refine brF ?_)); conv => whnf)
    intro hmr
    have hmr' : rows[k].length ≤ Go.maxLen := by simpa using hmr
    ((repeat ((conv => whnf); first | refine brT ?_ | refine brF ?_)); conv => whnf)
    refine loop_ruleR (α := Nat) [.old 0, .old 1] (fun i => [(21, .int .i64 (i : Int)), (3, .hs 1 ((gridTo rows k i).map lineOw).length)]) (fun i => [.box (relLV rows.length rows), .tree 139 1 ((gridTo rows k i).map lineOw)]) (fun i => rows[k].length - i) (fun i => i ≤ rows[k].length) 0 (Nat.zero_le _) ?_ ?_
    · refine ⟨?_, ⟨rfl, rfl, rfl, rfl, trivial⟩, rfl⟩
      ((repeat ((conv => whnf); refine ⟨rfl, rfl, ?_⟩)); trivial)
    intro i hi
    ((repeat ((conv => whnf); first | refine brT ?_ | refine brF ?_)); conv => whnf)
    (refine ⟨fun h2 => ?_, fun h2 => ?_⟩ <;> rw [h2])
    · have hil : i < rows[k].length := by rw [ltI_t] at h2; simp at h2; omega
      have e2 := step_i hil hmr'
      obtain ⟨b0, b1, _⟩ := hr.mem (List.getElem_mem hlt) (List.getElem_mem hil)
      obtain ⟨b, hb⟩ : ∃ b : Nat, rows[k][i] = (b : Int) := ⟨rows[k][i].toNat, by omega⟩
      have hbl : b < rows.length := by omega
      have hl : ((gridTo rows k i).map lineOw).length = rows.length := by rw [List.length_map, gridTo_len]
      have hg : ((gridTo rows k i).map lineOw)[k]? = some (lineOw (gLine rows k i)) := by rw [List.getElem?_map, gridTo_get hlt]; rfl
      have hll : ((gLine rows k i).map bLV).length = rows.length := by rw [List.length_map, gLine_len]
      have e4 : ((gridTo rows k i).map lineOw).set k (lineOw (gLine rows k (i + 1))) = (gridTo rows k (i + 1)).map lineOw := by rw [← gridTo_set hlt hil hb, List.map_set]
      have e3 : LV.hs 1 ((gridTo rows k i).map lineOw).length = LV.hs 1 ((gridTo rows k (i + 1)).map lineOw).length := by rw [hl, List.length_map, gridTo_len]
      ((repeat ((conv => whnf); first | refine brT ?_ | refine brF ?_)); conv => whnf)
      refine ⟨i, intLV rows[k][i], rfl, by simp [hil], rfl, ?_⟩
      rw [hb]
      ((repeat ((conv => whnf); first | refine brT ?_ | refine brF ?_)); conv => whnf)
      refine ⟨rfl, rfl, k, rfl, by omega, ?_⟩
      ((repeat ((conv => whnf); first | refine brT ?_ | refine brF ?_)); conv => whnf)
      refine ⟨rfl, lineOw (gLine rows k i), lineOw (gLine rows k i), hg, rfl, ?_⟩
      ((repeat ((conv => whnf); first | refine brT ?_ | refine brF ?_)); conv => whnf)
      refine ⟨rfl, rfl, b, rfl, by omega, ?_⟩
      ((repeat ((conv => whnf); first | refine brT ?_ | refine brF ?_)); conv => whnf)
      have hbL : b < (gLine rows k i).length := by rw [gLine_len]; exact hbl
      have hgb : ((gLine rows k i).map bLV)[b]? = some (.bool (gLine rows k i)[b]) := by simp [hbL, bLV]
      refine ⟨rfl, b, [], .bool (gLine rows k i)[b], rfl, by simp [getP, hgb], rfl, rfl, rfl, (gLine rows k (i + 1)).map bLV, ?_, ?_⟩
      · rw [hgb, ← gLine_set hlt hil hb, List.map_set]; rfl
      ((repeat ((conv => whnf); first | refine brT ?_ | refine brF ?_)); conv => whnf)
      refine round_endR [.old 0, .old 1] (i + 1) hil (by omega) ⟨?_, ?_, rfl⟩
      · repeat ((conv => whnf); first | refine ⟨rfl, e2, ?_⟩ | refine ⟨rfl, e3, ?_⟩ | refine ⟨rfl, rfl, ?_⟩)
        trivial
      · exact ⟨by simp [gLine_len], rfl, rfl, rfl, congrArg (Blk.tree 139 1) e4, trivial⟩
    · have hil : i = rows[k].length := by rw [ltI_f] at h2; simp at h2; omega
      have e4 : gridTo rows k i = gridTo rows (k + 1) 0 := by rw [hil, gridTo_row hlt]
      have e3 : LV.hs 1 ((gridTo rows k i).map lineOw).length = LV.hs 1 ((gridTo rows (k + 1) 0).map lineOw).length := by rw [e4]
      ((repeat ((conv => whnf); first | refine brT ?_ | refine brF ?_)); conv => whnf)
      refine round_endR [.old 0, .old 1] (k + 1) hlt (by omega) ⟨?_, ⟨rfl, rfl, rfl, congrArg (Blk.tree 139 1) (by rw [e4]), trivial⟩, rfl⟩
      repeat ((conv => whnf); first | refine ⟨rfl, e1, ?_⟩ | refine ⟨rfl, e3, ?_⟩ | refine ⟨rfl, rfl, ?_⟩)
      trivial
  · have h3 : k = rows.length := by rw [ltI_f] at h1; simp at h1; omega
    subst h3
    ((repeat ((conv => whnf); first | refine brT ?_ | refine brF ?_)); conv => whnf)
    refine ⟨[.hs 0 ((gridTo rows rows.length 0).map lineOw).length], rfl, rfl, .inr ⟨[.old 1], ⟨rfl, rfl, trivial⟩, ⟨rfl, rfl, trivial⟩, rfl⟩⟩
end Go.Proofs.Ytfdjeflnjciloaa

namespace Go.Proofs.Ytfdjeflnjciloaa
open Go.Lg
set_option maxHeartbeats 1600000
set_option maxRecDepth 10000
set_option linter.unusedVariables false
set_option linter.unusedSimpArgs false

def idxOf : Nat → List Int → Int → Int
  | _, [], _ => -1
  | k, x :: xs, v => match eqI v x with | true => (k : Int) | false => idxOf (k + 1) xs v
theorem idxOf_has : ∀ (k : Nat) (xs : List Int) (v : Int), leI 0 (idxOf k xs v) = decide (v ∈ xs)
  | k, [], v => by simp only [idxOf]; rw [show leI 0 (-1) = false by rw [leI_f]; omega]; simp
  | k, x :: xs, v => by
    simp only [idxOf]
    cases h : eqI v x
    · simp only []
      rw [idxOf_has (k + 1) xs v]
      rw [eqI_f] at h
      simp [h]
    · simp only []
      rw [eqI_t] at h
      subst h
      rw [show leI 0 (k : Int) = true by rw [leI_t]; omega]
      simp
theorem index_spec (r : List Int) (v : Int) : FSpec env.P 188 [rowSl r, .int .i64 v] (.int .i64 (idxOf 0 r v)) := by
  refine FSpec_of_code env_ok (fn := Try.f188) Try.func188 rfl Try.call188 _ _ ?_
  ((repeat ((conv => whnf); first | refine brT ?_ | refine brF ?_)); conv => whnf)
  intro hm
  have hm' : r.length ≤ Go.maxLen := by simpa using hm
  ((repeat ((conv => whnf); first | refine brT ?_ | refine brF ?_)); conv => whnf)
  refine loop_rule (α := Nat) (fun k => [(8, .int .i64 (k : Int))]) (fun _ => []) (fun k => r.length - k) (fun k => k ≤ r.length ∧ idxOf 0 r v = idxOf k (r.drop k) v) 0 ⟨Nat.zero_le _, rfl⟩ ?_ ?_
  · refine ⟨?_, trivial, rfl, rfl⟩
    ((repeat ((conv => whnf); refine ⟨rfl, ?_⟩)); trivial)
  rintro k ⟨hk, he⟩
  ((repeat ((conv => whnf); first | refine brT ?_ | refine brF ?_)); conv => whnf)
  (refine ⟨fun h1 => ?_, fun h1 => ?_⟩ <;> rw [h1])
  · have hlt : k < r.length := by rw [ltI_t] at h1; simp at h1; omega
    have e := step_i hlt hm'
    rw [List.drop_eq_getElem_cons hlt] at he
    simp only [idxOf] at he
    ((repeat ((conv => whnf); first | refine brT ?_ | refine brF ?_)); conv => whnf)
    refine ⟨k, intLV r[k], rfl, by simp [hlt], rfl, ?_⟩
    ((repeat ((conv => whnf); first | refine brT ?_ | refine brF ?_)); conv => whnf)
    (refine ⟨fun h2 => ?_, fun h2 => ?_⟩ <;> rw [h2])
    · ((repeat ((conv => whnf); first | refine brT ?_ | refine brF ?_)); conv => whnf)
      rw [h2] at he
      simp only at he
      rw [he]
      exact ⟨rfl, rfl, List.nodup_nil⟩
    · ((repeat ((conv => whnf); first | refine brT ?_ | refine brF ?_)); conv => whnf)
      rw [h2] at he
      simp only at he
      refine round_end (k + 1) ⟨hlt, he⟩ (by omega) ⟨?_, trivial, rfl, rfl⟩
      ((repeat ((conv => whnf); first | refine ⟨e, ?_⟩ | refine ⟨rfl, ?_⟩)); trivial)
  · have h3 : k = r.length := by rw [ltI_f] at h1; simp at h1; omega
    subst h3
    rw [List.drop_length] at he
    ((repeat ((conv => whnf); first | refine brT ?_ | refine brF ?_)); conv => whnf)
    rw [he]
    exact ⟨rfl, rfl, List.nodup_nil⟩
theorem contains_spec (r : List Int) (v : Int) : FSpec env.P 160 [rowSl r, .int .i64 v] (.bool (decide (v ∈ r))) := by
  refine FSpec_of_code env_ok (fn := Try.f160) Try.func160 rfl Try.call160 _ _ ?_
  ((repeat ((conv => whnf); first | refine brT ?_ | refine brF ?_)); conv => whnf)
  refine ⟨_, index_spec r v, ?_⟩
  ((repeat ((conv => whnf); first | refine brT ?_ | refine brF ?_)); conv => whnf)
  refine fin ?_
  rw [idxOf_has]
theorem isBelow_spec (x n : Int) : FSpec env.P 124 [.int .i64 x, .int .i64 n] (.bool (leI 0 x && ltI x n)) := by
  refine FSpec_of_code env_ok (fn := Try.f124) Try.func124 rfl Try.call124 _ _ ?_
  ((repeat' (((repeat ((conv => whnf); first | refine brT ?_ | refine brF ?_)); conv => whnf); (refine And.intro ?_ ?_ <;> (intro h; rw [h]; revert h; intro _)))); all_goals ((repeat ((conv => whnf); first | refine brT ?_ | refine brF ?_)); conv => whnf))
  all_goals (refine fin ?_; simp_all)

/-- Whether a is related to b. -/
def isRel (n : Int) (rows : List (List Int)) (a b : Int) : Bool := relOk n rows && decide (0 ≤ a ∧ a < n ∧ b ∈ rows.getD a.toNat [])

theorem isRelated_impl (n : Int) (rows : List (List Int)) (a b : Int) : FSpec env.P 86 [relLV n rows, .int .i64 a, .int .i64 b] (.bool (isRel n rows a b)) := by
  refine FSpec_of_code env_ok (fn := Try.f86) Try.func86 rfl Try.call86 _ _ ?_
  ((repeat ((conv => whnf); first | refine brT ?_ | refine brF ?_)); conv => whnf)
  refine ⟨_, isRelation_impl n rows, ?_⟩
  ((repeat ((conv => whnf); first | refine brT ?_ | refine brF ?_)); conv => whnf)
  (refine ⟨fun h => ?_, fun h => ?_⟩ <;> rw [h])
  rotate_left
  · ((repeat ((conv => whnf); first | refine brT ?_ | refine brF ?_)); conv => whnf)
    refine fin ?_
    simp [isRel, h]
  ((repeat ((conv => whnf); first | refine brT ?_ | refine brF ?_)); conv => whnf)
  refine ⟨_, isBelow_spec a n, ?_⟩
  ((repeat ((conv => whnf); first | refine brT ?_ | refine brF ?_)); conv => whnf)
  (refine ⟨fun h1 => ?_, fun h1 => ?_⟩ <;> rw [h1])
  rotate_left
  · ((repeat ((conv => whnf); first | refine brT ?_ | refine brF ?_)); conv => whnf)
    refine fin ?_
    have : ¬ (0 ≤ a ∧ a < n) := by
      rintro ⟨x, y⟩
      rw [leI_t.2 x, ltI_t.2 y] at h1
      cases h1
    simp [isRel, h]
    omega
  have hr := relIn_of h
  rw [Bool.and_eq_true, leI_t, ltI_t] at h1
  have hl := hr.len
  have ha : a.toNat < rows.length := by omega
  have hg : rows.getD a.toNat [] = rows[a.toNat] := by simp [List.getD_eq_getElem?_getD, ha]
  ((repeat ((conv => whnf); first | refine brT ?_ | refine brF ?_)); conv => whnf)
  refine ⟨a.toNat, rowSl rows[a.toNat], by omega, by simp [ha], rfl, ?_⟩
  ((repeat ((conv => whnf); first | refine brT ?_ | refine brF ?_)); conv => whnf)
  refine ⟨_, contains_spec rows[a.toNat] b, ?_⟩
  ((repeat ((conv => whnf); first | refine brT ?_ | refine brF ?_)); conv => whnf)
  refine fin ?_
  simp only [isRel, h, hg, Bool.true_and]
  simp [h1]

theorem gLine_at {rows : List (List Int)} {a b : Nat} (ha : a < rows.length) (hb : b < rows.length) : gAt rows rows.length 0 a b = decide ((b : Int) ∈ rows[a]) := by
  have hg : rows.getD a [] = rows[a] := by simp [List.getD_eq_getElem?_getD, ha]
  unfold gAt
  rw [hg, decide_eq_decide]
  simp [ha]
def gRow (rows : List (List Int)) (a : Nat) : List Bool := (List.range rows.length).map fun b => gAt rows rows.length 0 a b
theorem gRow_len (rows : List (List Int)) (a : Nat) : (gRow rows a).length = rows.length := by simp [gRow]
theorem gridL_len (rows : List (List Int)) : (gridL rows).length = rows.length := gridTo_len rows _ _
theorem gridL_get {rows : List (List Int)} {a : Nat} (ha : a < rows.length) : (gridL rows)[a]? = some (gRow rows a) := by simp [gridL, gridTo, gRow, ha]
theorem gRow_get {rows : List (List Int)} {a b : Nat} (ha : a < rows.length) (hb : b < rows.length) : (gRow rows a)[b]? = some (decide ((b : Int) ∈ rows[a])) := by
  rw [← gLine_at ha hb]
  simp [gRow, hb]
theorem flatTs_lines : ∀ g : List (List Bool), flatTs (g.map lineOw) = true
  | [] => rfl
  | r :: rs => by
    simp only [List.map_cons, flatTs, Bool.and_eq_true]
    refine ⟨?_, flatTs_lines rs⟩
    simp only [lineOw, flatT1]
    induction r with
    | nil => rfl
    | cons x xs ih => simp only [List.map_cons, flatsB, Bool.and_eq_true]; exact ⟨rfl, ih⟩

theorem isRelated_spec (n : Int) (rows : List (List Int)) (a b : Int) : FSpec env.P 85 [relLV n rows, .int .i64 a, .int .i64 b] (.bool (isRel n rows a b)) := by
  refine FSpec_of_code (E := env.x [119] 0) env_ok.x (fn := Try.f85) Try.func85 rfl Try.call85 _ _ ?_
  ((repeat ((conv => whnf); first | refine brT ?_ | refine brF ?_)); conv => whnf)
  refine ⟨_, isRelation_spec n rows, ?_⟩
  ((repeat ((conv => whnf); first | refine brT ?_ | refine brF ?_)); conv => whnf)
  (refine ⟨fun h => ?_, fun h => ?_⟩ <;> rw [h])
  · rw [notB_t] at h
    ((repeat ((conv => whnf); first | refine brT ?_ | refine brF ?_)); conv => whnf)
    refine fin ?_
    simp [isRel, h]
  rw [notB_f] at h
  have hr := relIn_of h
  have h0 := hr.lo
  have h9 := hr.hi
  ((repeat ((conv => whnf); first | refine brT ?_ | refine brF ?_)); conv => whnf)
  rw [show IntKind.i64.wrap (n - 1) = n - 1 from wrap64 (by omega) (by omega)]
  refine ⟨_, l1In_spec a 0 (n - 1), ?_⟩
  ((repeat ((conv => whnf); first | refine brT ?_ | refine brF ?_)); conv => whnf)
  (refine ⟨fun h1 => ?_, fun h1 => ?_⟩ <;> rw [h1])
  · ((repeat ((conv => whnf); first | refine brT ?_ | refine brF ?_)); conv => whnf)
    refine fin ?_
    rw [notB_t] at h1
    have : ¬ (0 ≤ a ∧ a < n) := by
      rintro ⟨x, y⟩
      rw [leI_t.2 x, leI_t.2 (show a ≤ n - 1 by omega)] at h1
      cases h1
    simp [isRel, h]
    omega
  rw [notB_f, Bool.and_eq_true, leI_t, leI_t] at h1
  have hl := hr.len
  have ha : a.toNat < rows.length := by omega
  have hg : rows.getD a.toNat [] = rows[a.toNat] := by simp [List.getD_eq_getElem?_getD, ha]
  ((repeat ((conv => whnf); first | refine brT ?_ | refine brF ?_)); conv => whnf)
  rw [show IntKind.i64.wrap (n - 1) = n - 1 from wrap64 (by omega) (by omega)]
  refine ⟨_, l1In_spec b 0 (n - 1), ?_⟩
  ((repeat ((conv => whnf); first | refine brT ?_ | refine brF ?_)); conv => whnf)
  (refine ⟨fun h2 => ?_, fun h2 => ?_⟩ <;> rw [h2])
  · ((repeat ((conv => whnf); first | refine brT ?_ | refine brF ?_)); conv => whnf)
    refine fin ?_
    rw [notB_t] at h2
    have : b ∉ rows[a.toNat] := by
      intro hm
      obtain ⟨x, y, _⟩ := hr.mem (List.getElem_mem ha) hm
      rw [leI_t.2 x, leI_t.2 (show b ≤ n - 1 by omega)] at h2
      cases h2
    simp only [isRel, h, hg, Bool.true_and]
    simp [this]
  rw [notB_f, Bool.and_eq_true, leI_t, leI_t] at h2
  have hb : b.toNat < rows.length := by omega
  have hL := gridL_len rows
  have hgg : ((gridL rows).map lineOw)[a.toNat]? = some (lineOw (gRow rows a.toNat)) := by rw [List.getElem?_map, gridL_get ha]; rfl
  have hgb : ((gRow rows a.toNat).map bLV)[b.toNat]? = some (.bool (decide (b ∈ rows[a.toNat]))) := by
    rw [List.getElem?_map, gRow_get ha hb, show ((b.toNat : Nat) : Int) = b by omega]; rfl
  subst hl
  ((repeat ((conv => whnf); first | refine brT ?_ | refine brF ?_)); conv => whnf)
  refine ⟨[], _, _, _, _, l2Grid_h rows hr, rfl, rfl, rfl, trivial, ?_⟩
  ((repeat ((conv => whnf); first | refine brT ?_ | refine brF ?_)); conv => whnf)
  refine ⟨rfl, rfl, a.toNat, by omega, by simp [hL]; omega, ?_⟩
  ((repeat ((conv => whnf); first | refine brT ?_ | refine brF ?_)); conv => whnf)
  refine ⟨rfl, lineOw (gRow rows a.toNat), lineOw (gRow rows a.toNat), hgg, rfl, ?_⟩
  ((repeat ((conv => whnf); first | refine brT ?_ | refine brF ?_)); conv => whnf)
  refine ⟨rfl, rfl, b.toNat, by omega, by simp [gRow_len]; omega, ?_⟩
  ((repeat ((conv => whnf); first | refine brT ?_ | refine brF ?_)); conv => whnf)
  refine ⟨rfl, by simp, _, by simp only [getP]; rw [hgb], rfl, ?_⟩
  ((repeat ((conv => whnf); first | refine brT ?_ | refine brF ?_)); conv => whnf)
  refine fin ?_
  simp only [isRel, h, hg, Bool.true_and]
  rw [decide_eq_decide.2 (show (0 ≤ a ∧ a < (rows.length : Int) ∧ b ∈ rows[a.toNat]) ↔ b ∈ rows[a.toNat] from ⟨fun x => x.2.2, fun x => ⟨by omega, by omega, x⟩⟩)]

theorem law_isRelated (n : Int) (rows : List (List Int)) (a b : Int) (hl : RowsLen rows) : FSpec env.P 17 [relLV n rows, .int .i64 a, .int .i64 b] (.bool true) := by
  refine FSpec_of_code env_ok (fn := Try.f17) Try.func17 rfl Try.call17 _ _ ?_
  ((repeat ((conv => whnf); first | refine brT ?_ | refine brF ?_)); conv => whnf)
  refine ⟨_, szRelation_spec n rows 1048576, ?_⟩
  by_cases h0 : 0 ≤ szRows 1048576 rows
  rotate_left
  · rw [show ltI (szRows 1048576 rows) 0 = true by rw [ltI_t]; omega]
    ((repeat ((conv => whnf); first | refine brT ?_ | refine brF ?_)); conv => whnf)
    rw [show ltI (-1) 0 = true by rw [ltI_t]; omega]
    ((repeat ((conv => whnf); first | refine brT ?_ | refine brF ?_)); conv => whnf)
    exact fin rfl
  obtain ⟨hb, ht, hlen, _, hf⟩ := szRows_ok (by omega) (by omega) hl h0
  rw [hf]
  ((repeat ((conv => whnf); first | refine brT ?_ | refine brF ?_)); conv => whnf)
  rw [hf]
  ((repeat ((conv => whnf); first | refine brT ?_ | refine brF ?_)); conv => whnf)
  refine ⟨_, toRelation_f n rows hb, ?_⟩
  ((repeat ((conv => whnf); first | refine brT ?_ | refine brF ?_)); conv => whnf)
  refine ⟨_, isRelated_spec n rows a b, ?_⟩
  ((repeat ((conv => whnf); first | refine brT ?_ | refine brF ?_)); conv => whnf)
  refine ⟨_, toRelation_f n rows hb, ?_⟩
  ((repeat ((conv => whnf); first | refine brT ?_ | refine brF ?_)); conv => whnf)
  refine ⟨_, isRelated_impl n rows a b, ?_⟩
  ((repeat ((conv => whnf); first | refine brT ?_ | refine brF ?_)); conv => whnf)
  rw [eqB_refl, show notB true = false by simp [notB]]
  ((repeat ((conv => whnf); first | refine brT ?_ | refine brF ?_)); conv => whnf)
  refine ⟨true, by kernel_rfl, ?_⟩
  ((repeat ((conv => whnf); first | refine brT ?_ | refine brF ?_)); conv => whnf)
  refine ⟨_, toRelation_f n rows hb, ?_⟩
  ((repeat ((conv => whnf); first | refine brT ?_ | refine brF ?_)); conv => whnf)
  refine ⟨_, eqRelation_spec n rows n rows, ?_⟩
  rw [eqRel_refl]
  ((repeat ((conv => whnf); first | refine brT ?_ | refine brF ?_)); conv => whnf)
  rw [show notB true = false by simp [notB]]
  ((repeat ((conv => whnf); first | refine brT ?_ | refine brF ?_)); conv => whnf)
  exact fin rfl
end Go.Proofs.Ytfdjeflnjciloaa
