/- The operations, told over readings, and that the model carries them out so. -/
import Derived.Test.YtbiagkccgijdlaaGreatALgE
namespace Go.Lg
variable [GI]
set_option linter.unusedSectionVars false
set_option linter.unusedVariables false
set_option linter.unusedSimpArgs false
open Go.RowKit

@[irreducible] def ltI (a b : Int) : Bool := decide (a < b)
@[irreducible] def leI (a b : Int) : Bool := decide (a ≤ b)
@[irreducible] def eqI (a b : Int) : Bool := a == b
@[irreducible] def notB (b : Bool) : Bool := !b
@[irreducible] def eqB (a b : Bool) : Bool := a == b
@[irreducible] def eqS (a b : ByteArray) : Bool := a.toList == b.toList

def kc : IntKind → Nat
  | .i8 => 0 | .i16 => 1 | .i32 => 2 | .i64 => 3 | .u8 => 4 | .u16 => 5 | .u32 => 6 | .u64 => 7
theorem kc_inj {k k' : IntKind} (h : Nat.beq (kc k) (kc k') = true) : k = k' := by
  have := Nat.eq_of_beq_eq_true h
  cases k <;> cases k' <;> first | rfl | (simp [kc] at this)

@[irreducible] def andI (k : IntKind) (a b : Int) : Int := k.wrap ((BitVec.ofInt k.bits a &&& BitVec.ofInt k.bits b).toNat)
@[irreducible] def orI (k : IntKind) (a b : Int) : Int := k.wrap ((BitVec.ofInt k.bits a ||| BitVec.ofInt k.bits b).toNat)
@[irreducible] def xorI (k : IntKind) (a b : Int) : Int := k.wrap ((BitVec.ofInt k.bits a ^^^ BitVec.ofInt k.bits b).toNat)
@[irreducible] def andNotI (k : IntKind) (a b : Int) : Int := k.wrap ((BitVec.ofInt k.bits a &&& ~~~BitVec.ofInt k.bits b).toNat)
@[irreducible] def shlI (k : IntKind) (a b : Int) : Int := k.wrap (a * 2 ^ (min b.toNat k.bits))
@[irreducible] def shrI (k : IntKind) (a b : Int) : Int := a.fdiv (2 ^ (min b.toNat k.bits))

def binI (op : BinOp) (k : IntKind) (a b : Int) (K : LV → Prop) : Prop :=
  match op with
  | .add => K (.int k (k.wrap (a + b)))
  | .sub => K (.int k (k.wrap (a - b)))
  | .mul => K (.int k (k.wrap (a * b)))
  | .quo => b ≠ 0 ∧ K (.int k (k.wrap (a.tdiv b)))
  | .rem => b ≠ 0 ∧ K (.int k (a.tmod b))
  | .eql => K (.bool (eqI a b))
  | .neq => K (.bool (notB (eqI a b)))
  | .lss => K (.bool (ltI a b))
  | .leq => K (.bool (leI a b))
  | .gtr => K (.bool (ltI b a))
  | .geq => K (.bool (leI b a))
  | .and => K (.int k (andI k a b))
  | .or => K (.int k (orI k a b))
  | .xor => K (.int k (xorI k a b))
  | .andNot => K (.int k (andNotI k a b))
  | _ => False

def binW (T : Tab) (op : BinOp) (t : TypeId) (x y : LV) (K : LV → Prop) : Prop :=
  match x, y with
  | .int k a, .int k' b => match op with
    | .shl => 0 ≤ b ∧ K (.int k (shlI k a b))
    | .shr => 0 ≤ b ∧ K (.int k (shrI k a b))
    | op => match Nat.beq (kc k) (kc k') with | true => binI op k a b K | false => False
  | .str a, .str b => match op with
    | .add => a.size + b.size ≤ maxLen ∧ K (.str (a ++ b))
    | .eql => K (.bool (eqS a b))
    | .neq => K (.bool (notB (eqS a b)))
    | _ => False
  | .bool a, .bool b => match T t with
    | some i => match i.kind with
      | .bool => match op with
        | .eql => K (.bool (eqB a b))
        | .neq => K (.bool (notB (eqB a b)))
        | _ => False
      | _ => False
    | none => False
  | _, _ => False

def unW (op : UnOp) (x : LV) (K : LV → Prop) : Prop :=
  match op, x with
  | .not, .bool b => K (.bool (notB b))
  | .neg, .int k n => K (.int k (k.wrap (0 - n)))
  | _, _ => False

section
variable {P : Program} {X : Nat → Prop} {B : Nat} {W0 : Orig} {ts : List LV} {H : List Blk} {a : Act} {pl : Nat → PV} {w : World}

theorem RT_int {ρ : Ctx} {k : IntKind} {n : Int} {v : Value} (h : RT ρ (.int k n) v) : v = .int k n := by simpa [RT, RT1, RC] using h
theorem RT_bool {ρ : Ctx} {b : Bool} {v : Value} (h : RT ρ (.bool b) v) : v = .bool b := by simpa [RT, RT1, RC] using h
theorem RT_str {ρ : Ctx} {s : ByteArray} {v : Value} (h : RT ρ (.str s) v) : v = .string s ∧ s.size ≤ maxLen := by simpa [RT, RT1, RC] using h
theorem RT_mk_int (ρ : Ctx) (k : IntKind) (n : Int) : RT ρ (.int k n) (.int k n) := by simp [RT, RT1, RC]
theorem RT_mk_bool (ρ : Ctx) (b : Bool) : RT ρ (.bool b) (.bool b) := by simp [RT, RT1, RC]
theorem RT_mk_str (ρ : Ctx) {s : ByteArray} (h : s.size ≤ maxLen) : RT ρ (.str s) (.string s) := by simpa [RT, RT1, RC] using h

theorem op_move {o : Oper} {x : Operand} (ho : o.op = .move x ∨ o.op = .assign x) (s : Sim X B W0 ⟨ts, H⟩ a w pl) {K : LV → List Blk → Prop} (h : K (ev ts x) H) : OpResS P o a w X B W0 ts H pl K := by
  refine OpResS.pure s ?_ h (ev_sound s x)
  rcases ho with ho | ho <;> simp [execOp, ho]

theorem op_pick {o : Oper} {c x y : Operand} (ho : o.op = .pick c x y) (s : Sim X B W0 ⟨ts, H⟩ a w pl) {K : LV → List Blk → Prop}
    (h : match ev ts c with | .bool b => (match b with | true => K (ev ts x) H | false => K (ev ts y) H) | _ => False) : OpResS P o a w X B W0 ts H pl K := by
  have hc := ev_sound s c
  cases e : ev ts c <;> rw [e] at h <;> try exact h.elim
  rename_i b
  rw [e] at hc
  have hv := RT_bool hc
  cases b
  · exact OpResS.pure s (by simp [execOp, ho, hv, asBool]) h (ev_sound s y)
  · exact OpResS.pure s (by simp [execOp, ho, hv, asBool]) h (ev_sound s x)

theorem op_extract {o : Oper} {x : Operand} {i : Nat} (ho : o.op = .extract x i) (s : Sim X B W0 ⟨ts, H⟩ a w pl) {K : LV → List Blk → Prop}
    (h : match ev ts x with | .tup vs => (match vs[i]? with | some y => (match y with | .tup _ => False | _ => K y H) | none => False) | _ => False) : OpResS P o a w X B W0 ts H pl K := by
  have hc := ev_sound s x
  cases e : ev ts x <;> rw [e] at h <;> try exact h.elim
  rename_i vs
  rw [e] at hc
  obtain ⟨us, h1, h2, h3⟩ := hc
  simp only at h
  cases hi : vs[i]? with
  | none => rw [hi] at h; exact h.elim
  | some y =>
    rw [hi] at h
    have hlt : i < us.size := by rw [h2]; exact lt_of_get hi
    have hu : us[i]? = some us[i] := by simp [hlt]
    have h4 := h3 i y _ hi hu
    refine OpResS.pure s (v := us[i]) (by simp [execOp, ho, h1, Instr.extract, hu]) (x := y) ?_ ?_
    · cases y <;> first | exact h | exact h.elim
    · cases y <;> first | exact h4 | exact h.elim

theorem op_un {o : Oper} {op : UnOp} {t : TypeId} {x : Operand} (ho : o.op = .unOp op t x) (s : Sim X B W0 ⟨ts, H⟩ a w pl) {K : LV → List Blk → Prop}
    (h : unW op (ev ts x) fun v => K v H) : OpResS P o a w X B W0 ts H pl K := by
  have hc := ev_sound s x
  unfold unW at h
  split at h
  · rename_i b e
    rw [e] at hc
    have hv := RT_bool hc
    exact OpResS.pure s (v := .bool (!b)) (by simp [execOp, ho, hv, Op.unary]) h (by unfold notB; exact RT_mk_bool _ _)
  · rename_i k n e
    rw [e] at hc
    have hv := RT_int hc
    exact OpResS.pure s (v := .int k (k.wrap (0 - n))) (by simp [execOp, ho, hv, Op.unary, Op.intArith]) h (RT_mk_int _ _ _)
  · exact h.elim

theorem run_bin_int {op : BinOp} {t yt : TypeId} {x y : Operand} {o : Oper} (ho : o.op = .binOp op t x y yt) {k : IntKind} {m n : Int} (hx : a.eval x = .int k m) (hy : a.eval y = .int k n)
    {K : LV → Prop} (h : binI op k m n K) : ∃ v z, (execOp a.eval o).run P w = .ok (.value v) w ∧ K z ∧ ∀ ρ, RT ρ z v := by
  cases op <;> simp only [binI] at h <;> try exact h.elim
  case add => exact ⟨_, _, by simp [execOp, ho, hx, hy, eqGuard, binOp, Op.intArith], h, fun ρ => RT_mk_int _ _ _⟩
  case sub => exact ⟨_, _, by simp [execOp, ho, hx, hy, eqGuard, binOp, Op.intArith], h, fun ρ => RT_mk_int _ _ _⟩
  case mul => exact ⟨_, _, by simp [execOp, ho, hx, hy, eqGuard, binOp, Op.intArith], h, fun ρ => RT_mk_int _ _ _⟩
  case quo => exact ⟨_, _, by simp [execOp, ho, hx, hy, eqGuard, binOp, Op.intDiv, h.1], h.2, fun ρ => RT_mk_int _ _ _⟩
  case rem => exact ⟨_, _, by simp [execOp, ho, hx, hy, eqGuard, binOp, Op.intDiv, h.1], h.2, fun ρ => RT_mk_int _ _ _⟩
  case and => exact ⟨.int k (andI k m n), _, by simp [execOp, ho, hx, hy, eqGuard, binOp]; unfold andI; rfl, h, fun ρ => RT_mk_int _ _ _⟩
  case or => exact ⟨.int k (orI k m n), _, by simp [execOp, ho, hx, hy, eqGuard, binOp]; unfold orI; rfl, h, fun ρ => RT_mk_int _ _ _⟩
  case xor => exact ⟨.int k (xorI k m n), _, by simp [execOp, ho, hx, hy, eqGuard, binOp]; unfold xorI; rfl, h, fun ρ => RT_mk_int _ _ _⟩
  case andNot => exact ⟨.int k (andNotI k m n), _, by simp [execOp, ho, hx, hy, eqGuard, binOp]; unfold andNotI; rfl, h, fun ρ => RT_mk_int _ _ _⟩
  case eql => exact ⟨.bool (m == n), _, by simp [execOp, ho, hx, hy, eqGuard, binOp, Op.intCmp], h, fun ρ => by unfold eqI; exact RT_mk_bool _ _⟩
  case neq => exact ⟨.bool (m != n), _, by simp [execOp, ho, hx, hy, eqGuard, binOp, Op.intCmp], h, fun ρ => by unfold notB eqI; exact RT_mk_bool _ _⟩
  case lss => exact ⟨.bool (decide (m < n)), _, by simp [execOp, ho, hx, hy, eqGuard, binOp, Op.intCmp], h, fun ρ => by unfold ltI; exact RT_mk_bool _ _⟩
  case leq => exact ⟨.bool (decide (m ≤ n)), _, by simp [execOp, ho, hx, hy, eqGuard, binOp, Op.intCmp], h, fun ρ => by unfold leI; exact RT_mk_bool _ _⟩
  case gtr => exact ⟨.bool (decide (m > n)), _, by simp [execOp, ho, hx, hy, eqGuard, binOp, Op.intCmp], h, fun ρ => by unfold ltI; exact RT_mk_bool _ _⟩
  case geq => exact ⟨.bool (decide (m ≥ n)), _, by simp [execOp, ho, hx, hy, eqGuard, binOp, Op.intCmp], h, fun ρ => by unfold leI; exact RT_mk_bool _ _⟩

theorem op_bin {T : Tab} (hT : TabOK P T) {o : Oper} {op : BinOp} {t yt : TypeId} {x y : Operand} (ho : o.op = .binOp op t x y yt) (s : Sim X B W0 ⟨ts, H⟩ a w pl) {K : LV → List Blk → Prop}
    (h : binW T op t (ev ts x) (ev ts y) fun v => K v H) : OpResS P o a w X B W0 ts H pl K := by
  have hx := ev_sound s x
  have hy := ev_sound s y
  unfold binW at h
  split at h
  · rename_i k m k' n ex ey
    rw [ex] at hx
    rw [ey] at hy
    have vx := RT_int hx
    have vy := RT_int hy
    split at h
    · have hn : ¬ n < 0 := by omega
      exact OpResS.pure s (v := .int k (shlI k m n)) (by simp only [execOp, ho, vx, vy, eqGuard, binOp, Op.shift, if_neg hn]; unfold shlI; rfl) h.2 (RT_mk_int _ _ _)
    · have hn : ¬ n < 0 := by omega
      exact OpResS.pure s (v := .int k (shrI k m n)) (by simp only [execOp, ho, vx, vy, eqGuard, binOp, Op.shift, if_neg hn]; unfold shrI; rfl) h.2 (RT_mk_int _ _ _)
    split at h
    · rename_i hk
      obtain rfl := kc_inj hk
      obtain ⟨v, z, h1, h2, h3⟩ := run_bin_int (P := P) (w := w) ho vx vy h
      exact OpResS.pure s h1 h2 (h3 _)
    · exact h.elim
  · rename_i m n ex ey
    rw [ex] at hx
    rw [ey] at hy
    obtain ⟨vx, sx⟩ := RT_str hx
    obtain ⟨vy, sy⟩ := RT_str hy
    split at h
    · obtain ⟨h1, h2⟩ := h
      have hb : ¬ (((m.size + n.size : Nat) : Int) > IntKind.i64.max) := by
        unfold maxLen at h1
        simp [IntKind.max, IntKind.signed, IntKind.bits]
        omega
      exact OpResS.pure s (v := .string (m ++ n)) (by simp only [execOp, ho, vx, vy, eqGuard, binOp, Op.stringOp, if_neg hb]; rfl) h2 (RT_mk_str _ (by simpa [ByteArray.size_append] using h1))
    · exact OpResS.pure s (v := .bool (m.toList == n.toList)) (by simp [execOp, ho, vx, vy, eqGuard, binOp, Op.stringOp]) h (by unfold eqS; exact RT_mk_bool _ _)
    · exact OpResS.pure s (v := .bool (!(m.toList == n.toList))) (by simp [execOp, ho, vx, vy, eqGuard, binOp, Op.stringOp]) h (by unfold notB eqS; exact RT_mk_bool _ _)
    · exact h.elim
  · rename_i m n ex ey
    rw [ex] at hx
    rw [ey] at hy
    have vx := RT_bool hx
    have vy := RT_bool hy
    split at h
    · rename_i i hi
      split at h
      · rename_i hk
        obtain ⟨d, hd, hd2, _⟩ := (hT t i hi).und
        rw [hk] at hd2
        obtain rfl := kind_bool hd2
        have he : ∀ w : World, (Op.equal t (.bool m) (.bool n)).run P w = .ok (m == n) w := fun w => by
          rw [show Op.equal t (.bool m) (.bool n) = Op.equalIn (9999 + 1) t (.bool m) (.bool n) from rfl, Op.equalIn]
          simp [run_underlying hd]
        split at h
        · exact OpResS.pure s (v := .bool (m == n)) (by simp [execOp, ho, vx, vy, eqGuard, binOp, he]) h (by unfold eqB; exact RT_mk_bool _ _)
        · exact OpResS.pure s (v := .bool (!(m == n))) (by simp [execOp, ho, vx, vy, eqGuard, binOp, he]) h (by unfold notB eqB; exact RT_mk_bool _ _)
        · exact h.elim
      · exact h.elim
    · exact h.elim
  · exact h.elim

end
end Go.Lg

