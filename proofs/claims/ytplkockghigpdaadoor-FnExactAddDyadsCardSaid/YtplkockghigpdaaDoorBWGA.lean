/- The types of this seat's program, as the logic of values has them. -/
import Derived.Test.YtplkockghigpdaaDoorRows
import Derived.Test.YtplkockghigpdaaDoorBLgN
import Derived.KernelRfl
import Derived.Lib.LaidTab
import Derived.Lib.TrailingZeros
import Derived.LaidMore
import Derived.Stop.LaidErr
import Derived.MakeChecks
import Derived.Shelf.Spec.TrailingZeros
import Derived.WalkKit
import Derived.Test.YtplkockghigpdaaDoorBLgWS
import Derived.Test.YtplkockghigpdaaDoorBSeat
import Derived.Test.YtplkockghigpdaaDoorTie
import Derived.OpenShut
import Derived.Stop.Joined
namespace Go.Proofs.YtplkockghigpdaaDoor
open Go.Lg
def tyL : List (Nat × TyI) :=
  [(2, ⟨.int .i64, 1, 8⟩),
   (3, ⟨.int .i64, 1, 8⟩),
   (4, ⟨.bool, 1, 1⟩),
   (5, ⟨.int .u8, 1, 1⟩),
   (9, ⟨.str, 1, 16⟩),
   (21, ⟨.int .i32, 1, 4⟩),
   (23, ⟨.struct [3, 3] [0, 1], 2, 16⟩),
   (28, ⟨.struct [3, 3] [0, 1], 2, 16⟩),
   (34, ⟨.slice 95, 1, 24⟩),
   (35, ⟨.slice 101, 1, 24⟩),
   (37, ⟨.struct [34, 35] [0, 1], 2, 48⟩),
   (40, ⟨.slice 82, 1, 24⟩),
   (41, ⟨.slice 99, 1, 24⟩),
   (43, ⟨.struct [40, 41] [0, 1], 2, 48⟩),
   (50, ⟨.slice 5, 1, 24⟩),
   (51, ⟨.slice 23, 1, 24⟩),
   (56, ⟨.slice 3, 1, 24⟩),
   (69, ⟨.slice 51, 1, 24⟩),
   (74, ⟨.slice 56, 1, 24⟩),
   (75, ⟨.slice 56, 1, 24⟩),
   (82, ⟨.struct [9, 3, 3, 3, 3, 3] [0, 1, 2, 3, 4, 5], 6, 56⟩),
   (86, ⟨.slice 56, 1, 24⟩),
   (93, ⟨.int .u64, 1, 8⟩),
   (95, ⟨.struct [9, 3, 3, 3, 3, 3] [0, 1, 2, 3, 4, 5], 6, 56⟩),
   (99, ⟨.struct [3, 3, 3, 3] [0, 1, 2, 3], 4, 32⟩),
   (101, ⟨.struct [3, 3, 3, 3] [0, 1, 2, 3], 4, 32⟩),
   (104, ⟨.other, 1, 8⟩),
   (111, ⟨.other, 1, 8⟩),
   (112, ⟨.int .u64, 1, 8⟩),
   (113, ⟨.int .u64, 1, 8⟩),
   (120, ⟨.int .u32, 1, 4⟩),
   (136, ⟨.struct [50, 3, 3] [0, 1, 2], 3, 40⟩),
   (163, ⟨.other, 1, 8⟩)]
def zL : List (Nat × LV) :=
  [(2, (.int .i64 0)),
   (3, (.int .i64 0)),
   (4, (.bool false)),
   (5, (.int .u8 0)),
   (9, (.str ⟨#[]⟩)),
   (21, (.int .i32 0)),
   (23, (.st [(.int .i64 0), (.int .i64 0)])),
   (28, (.st [(.int .i64 0), (.int .i64 0)])),
   (34, .nil),
   (35, .nil),
   (37, (.st [.nil, .nil])),
   (40, .nil),
   (41, .nil),
   (43, (.st [.nil, .nil])),
   (50, .nil),
   (51, .nil),
   (56, .nil),
   (69, .nil),
   (74, .nil),
   (75, .nil),
   (82, (.st [(.str ⟨#[]⟩), (.int .i64 0), (.int .i64 0), (.int .i64 0), (.int .i64 0), (.int .i64 0)])),
   (86, .nil),
   (93, (.int .u64 0)),
   (95, (.st [(.str ⟨#[]⟩), (.int .i64 0), (.int .i64 0), (.int .i64 0), (.int .i64 0), (.int .i64 0)])),
   (99, (.st [(.int .i64 0), (.int .i64 0), (.int .i64 0), (.int .i64 0)])),
   (101, (.st [(.int .i64 0), (.int .i64 0), (.int .i64 0), (.int .i64 0)])),
   (104, .undef),
   (111, .undef),
   (112, (.int .u64 0)),
   (113, (.int .u64 0)),
   (120, (.int .u32 0)),
   (136, (.st [.nil, (.int .i64 0), (.int .i64 0)])),
   (163, .undef)]
def cL : List (Nat × List (Nat × Nat)) :=
  [(23, [(3, 0), (3, 1)]),
   (28, [(3, 0), (3, 1)]),
   (82, [(9, 0), (3, 1), (3, 2), (3, 3), (3, 4), (3, 5)]),
   (95, [(9, 0), (3, 1), (3, 2), (3, 3), (3, 4), (3, 5)]),
   (99, [(3, 0), (3, 1), (3, 2), (3, 3)]),
   (101, [(3, 0), (3, 1), (3, 2), (3, 3)])]
def mL : MTab :=
  []
def bL : List (Nat × Nat) := []
def mpL : List (TypeId × MK × TypeId × TypeId) := []
noncomputable def env : Env := { P := Tryd.prog, T := lookT tyL, Z := lookT zL, C := lookT cL, M := mL, bd := bL, mp := mpL }
theorem tyL_ok : tyL.all (fun x => tyOKB Tryd.prog x.1 x.2) = true := by kernel_rfl
theorem zL_ok : zL.all (fun x => zOKB Tryd.prog x.1 x.2) = true := by kernel_rfl
theorem cL_ok : cL.all (fun x => cmpB Tryd.prog x.1 x.2) = true := by kernel_rfl
theorem mL_ok : mL.all (fun x => methB Tryd.prog x.1 x.2.1 x.2.2) = true := by kernel_rfl
theorem bL_ok : bL.all (fun x => bdOKB Tryd.prog x.1) = true := by kernel_rfl
theorem mpL_ok : mpL.all (mpB Tryd.prog) = true := by kernel_rfl
theorem laid_ok : laidOutB Tryd.prog = true := by kernel_rfl
/-- What a run may lean on of its world: nothing. -/
theorem g64 : Tryd.prog.globalNamed "math/bits.deBruijn64tab" = some 1 := by kernel_rfl
theorem g64Type : (Tryd.prog.globals[1]?).map (·.type) = some 138 := by kernel_rfl
theorem cells5' : Tryd.prog.cellsOf 5 = 1 := by kernel_rfl
theorem cells64 : Tryd.prog.cellsOf 138 = 64 := by kernel_rfl
/-- The table of math/bits, as it lies. -/
def TabLies (w : World) : Prop := ∀ j, j < 64 → w.cell? ⟨1, j, none⟩ = some (.int .u8 (Lib.deBruijn64tab.getD j 0 : Nat))
instance gi : GI := { low := 2, F := TabLies, keepF := fun h k t j hj => by rw [cell_of_block (k.block 1 (by omega))]; exact t j hj }
theorem tab_data : (Rows.laid_math_bits_deBruijn64tab : DataW Unit) = Lib.tabData .u8 (Lib.deBruijn64tab.map fun n : Nat => (n : Int)) := by rfl
theorem gi_of {W : World} (h : laidMetH Tryd.prog Rows.fnExactDyadOfRow.laid W) : GI.I W.heap.size W := by
  rw [MakeChecks.laidMetH_plain _ _ _ (by kernel_rfl)] at h
  have h2 := laidMet.tail h
  have ht : Lib.TabIs Tryd.prog W "math/bits.deBruijn64tab" .u8 (Lib.deBruijn64tab.map fun n : Nat => (n : Int)) := by
    refine Lib.tabIs_of_head (rest := []) g64 g64Type Tryd.underlying138 Tryd.underlying5 cells5' cells64 ?_
    rw [← tab_data]; exact h2
  have hc : TabLies W := fun j hj => by
    have := ht.cell g64 j (by simpa [Lib.deBruijn64tab] using hj)
    rw [this]
    simp [List.getD_eq_getElem?_getD, show j < Lib.deBruijn64tab.length from by simpa [Lib.deBruijn64tab] using hj]
  refine ⟨?_, hc⟩
  have h0 := hc 0 (by decide)
  show 2 ≤ W.heap.size
  rcases Nat.lt_or_ge 1 W.heap.size with h | h
  · exact h
  · unfold World.cell? at h0
    rw [Array.getElem?_eq_none h] at h0
    cases h0
theorem env_ok : EnvOK env := ⟨TabOK_of tyL_ok, ZOK_of zL_ok, by kernel_rfl, COK_of cL_ok, MOK_of mL_ok, BdOK_of bL_ok, MpOK_of mpL_ok laid_ok⟩
end Go.Proofs.YtplkockghigpdaaDoor


namespace Go.Proofs.YtplkockghigpdaaDoor
open Go.Lg
set_option maxHeartbeats 2000000
set_option maxRecDepth 100000
set_option linter.unusedVariables false
set_option linter.unusedSimpArgs false

/-! ### Trailing zeros -/
theorem tz64_core (x k idx : Nat) (w : World) (hx0 : ((x : Int) == 0) = false)
    (key : IntKind.u64.wrap (bits BinOp.and IntKind.u64 (x : Int) (IntKind.u64.wrap (-(x : Int))) * 285870213051353865) / 288230376151711744 = (idx : Int))
    (hi : idx < 64) (hk : k < 64) (hcell : w.cell? ⟨1, idx, none⟩ = some (.int .u8 k)) :
    Calls Tryd.prog 94 #[.int .u64 x] w fun e w' => e = .returned (.int .i64 k) ∧ w' = w := by
  go_enter Tryd.func94, Tryd.ntmps94
  go_wp2_with (simp only [key])
  go_ret
  exact ⟨rfl, rfl⟩
theorem tz64_zero (w : World) : Calls Tryd.prog 94 #[.int .u64 0] w fun e w' => e = .returned (.int .i64 64) ∧ w' = w := by
  go_enter Tryd.func94, Tryd.ntmps94
  go_wp2
  go_ret
  exact ⟨rfl, rfl⟩
theorem tz64 (x : Nat) (hx : x < 18446744073709551616) (w : World) (hT : TabLies w) : Calls Tryd.prog 94 #[.int .u64 x] w fun e w' => e = .returned (.int .i64 (Lib.ctz 64 x)) ∧ w' = w := by
  by_cases hx0 : x = 0
  · subst hx0
    exact tz64_zero w
  · obtain ⟨hlow, hk⟩ := Lib.lowest_bit 64 x hx0 hx
    obtain ⟨hi, htab⟩ := Lib.deBruijn64_at _ hk
    have hcell := hT _ hi
    rw [htab] at hcell
    exact tz64_core x _ _ w (by simp; omega) (tz64_key x _ hx hx0 hlow) hi hk hcell
theorem tz (x : Nat) (hx : x < 18446744073709551616) (w : World) (hT : TabLies w) : Calls Tryd.prog 69 #[.int .u64 x] w fun e w' => e = .returned (.int .i64 (Lib.ctz 64 x)) ∧ w' = w := by
  go_enter Tryd.func69, Tryd.ntmps69
  go_wp2_with (go_at_call 94; refine (tz64 x hx _ hT).mono ?_; rintro e w' ⟨rfl, rfl⟩)
  go_ret
  exact ⟨rfl, rfl⟩
theorem tz_spec (x : Nat) (hx : x < 18446744073709551616) : FSpec env.P 69 [.int .u64 (x : Int)] (.int .i64 (Lib.ctz 64 x : Nat)) := by
  unfold FSpec
  refine ⟨Tryd.call69, fun w O vs hI hO hsz hargs => ?_⟩
  obtain ⟨v0, rfl⟩ : ∃ v0, vs = #[v0] := by
    obtain ⟨vl⟩ := vs
    match vl, hsz with
    | [a], _ => exact ⟨a, rfl⟩
  have a0 := hargs 0 _ v0 rfl rfl
  simp only [RT, RT1, RC, List.cons.injEq, and_true] at a0
  subst a0
  refine (tz x hx w hI.2).mono ?_
  rintro e w' ⟨rfl, rfl⟩
  exact ⟨_, rfl, Below.refl _ _, [], List.nodup_nil, by simp [RR, RR1, RRc, RC]⟩
end Go.Proofs.YtplkockghigpdaaDoor


namespace Go.Proofs.YtplkockghigpdaaDoor
open Go.Lg
set_option maxHeartbeats 800000
set_option linter.unusedVariables false
set_option linter.unusedSimpArgs false

/-! ### Fractions in their lowest terms -/
def rdc : Nat → Nat → Nat × Nat
  | n, 0 => (n, 0)
  | n, e + 1 => if n % 2 = 0 then rdc (n / 2) e else (n, e + 1)
theorem rdc_even {n e : Nat} (h : n % 2 = 0) : rdc n (e + 1) = rdc (n / 2) e := by rw [rdc, if_pos h]
theorem rdc_odd' {n e : Nat} (h : n % 2 = 1) : rdc n e = (n, e) := by
  cases e with
  | zero => rfl
  | succ e => rw [rdc, if_neg (by omega)]
theorem rdc_two (n e : Nat) : rdc (2 * n) (e + 1) = rdc n e := by
  rw [rdc_even (by omega), Nat.mul_div_cancel_left n (by omega : 0 < 2)]
theorem rdc_mul (n e : Nat) : ∀ j, rdc (n * 2 ^ j) (e + j) = rdc n e
  | 0 => by simp
  | j + 1 => by
    rw [show n * 2 ^ (j + 1) = 2 * (n * 2 ^ j) by rw [Nat.pow_succ, ← Nat.mul_assoc, Nat.mul_comm], show e + (j + 1) = e + j + 1 from rfl, rdc_two, rdc_mul n e j]
theorem rdc_exp : ∀ (e n : Nat), (rdc n e).2 ≤ e
  | 0, n => Nat.le_refl _
  | e + 1, n => by
    rw [rdc]; split
    · exact Nat.le_trans (rdc_exp e _) (by omega)
    · exact Nat.le_refl _
theorem rdc_low : ∀ (e n : Nat), (rdc n e).2 = 0 ∨ (rdc n e).1 % 2 = 1
  | 0, n => .inl rfl
  | e + 1, n => by
    rw [rdc]; split
    · exact rdc_low e _
    · exact .inr (by show n % 2 = 1; omega)
theorem rdc_fix {n e : Nat} : rdc n e = (n, e) ↔ e = 0 ∨ n % 2 = 1 := by
  constructor
  · intro h
    have := rdc_low e n
    rw [h] at this; exact this
  · rintro (rfl | h)
    · rfl
    · exact rdc_odd' h
theorem rdc_zero : ∀ e, rdc 0 e = (0, 0)
  | 0 => rfl
  | e + 1 => by rw [rdc, if_pos rfl]; exact rdc_zero e
/-- A fraction in parts of 1 / 2^30. -/
def dv (d : Nat × Nat) : Nat := d.1 * 2 ^ (30 - d.2)
/-- So many parts in lowest terms. -/
def rd (v : Nat) : Nat × Nat := rdc v 30
theorem rd_dv {d : Nat × Nat} (h : d.2 ≤ 30) : rd (dv d) = rdc d.1 d.2 := by
  unfold rd dv
  have := rdc_mul d.1 d.2 (30 - d.2)
  rwa [Nat.add_sub_cancel' h] at this
theorem rd_exp (v : Nat) : (rd v).2 ≤ 30 := rdc_exp 30 v
end Go.Proofs.YtplkockghigpdaaDoor


namespace Go.Proofs.YtplkockghigpdaaDoor
open Go.Lg
set_option maxHeartbeats 400000
set_option linter.unusedVariables false
set_option linter.unusedSimpArgs false

theorem l1In_spec (x a b : Int) : FSpec env.P 36 [.int .i64 x, .int .i64 a, .int .i64 b] (.bool (leI a x && leI x b)) := by
  refine FSpec_of_code env_ok (fn := Tryd.f36) Tryd.func36 rfl Tryd.call36 _ _ ?_
  conv => whnf
  refine ⟨fun h => ?_, fun h => ?_⟩ <;> rw [h] <;> conv => whnf
  · repeat (refine brT ?_; conv => whnf)
    exact fin rfl
  · repeat (refine brF ?_; conv => whnf)
    exact fin rfl

def low (c : UInt8) : Bool := !(ltI (c.toNat : Int) 97 || ltI 122 (c.toNat : Int))
def lowTo (s : ByteArray) (k : Nat) : Prop := ∀ j (h : j < s.size), j < k → low s[j] = true
def allLow (s : ByteArray) : Bool := s.data.toList.all low
theorem lowTo.succ {s : ByteArray} {k : Nat} (h : lowTo s k) (hk : k < s.size) (hl : low s[k] = true) : lowTo s (k + 1) := by
  intro j hj hjk
  by_cases e : j = k
  · subst e; exact hl
  · exact h j hj (by omega)
theorem lowTo.all {s : ByteArray} {k : Nat} (h : lowTo s k) (hk : s.size ≤ k) : allLow s = true := by
  unfold allLow
  rw [List.all_eq_true]
  intro c hc
  obtain ⟨j, hj, rfl⟩ := List.mem_iff_getElem.1 hc
  have hj' : j < s.size := by simpa using hj
  exact h j hj' (by omega)
end Go.Proofs.YtplkockghigpdaaDoor


namespace Go.Proofs.YtplkockghigpdaaDoor
open Go.Lg
set_option maxHeartbeats 3200000
set_option maxRecDepth 10000
set_option linter.unusedVariables false
set_option linter.unusedSimpArgs false

/-! ### Dyads: lowest terms on both sides -/
theorem rdc_ctz : ∀ (f n e : Nat), 0 < n → n < 2 ^ f → rdc n e = (n / 2 ^ min (Lib.ctzFrom f n) e, e - min (Lib.ctzFrom f n) e)
  | 0, n, e, h0, h => by simp at h; omega
  | f + 1, n, e, h0, h => by
    unfold Lib.ctzFrom
    split
    · rename_i h1
      rw [rdc_odd' h1]; simp
    · rename_i h1
      have ih := rdc_ctz f (n / 2)
      cases e with
      | zero => simp [rdc]
      | succ e =>
        rw [rdc_even (by omega), ih e (by omega) (by rw [Nat.pow_succ] at h; omega)]
        have em : min (1 + Lib.ctzFrom f (n / 2)) (e + 1) = min (Lib.ctzFrom f (n / 2)) e + 1 := by omega
        rw [em, Nat.pow_succ, Nat.div_div_eq_div_mul, Nat.mul_comm]
        congr 1; omega
theorem rdc_tz (n e : Nat) (h : n < 2 ^ 64) (he : e ≤ 64) : rdc n e = (n / 2 ^ min (Lib.ctz 64 n) e, e - min (Lib.ctz 64 n) e) := by
  unfold Lib.ctz
  by_cases h0 : n = 0
  · subst h0
    rw [if_pos rfl, rdc_zero, Nat.min_eq_right he]; simp
  · rw [if_neg h0]; exact rdc_ctz 64 n e (by omega) h
def dyLV (d : Nat × Nat) : LV := .st [.int .i64 (d.1 : Int), .int .i64 (d.2 : Int)]
theorem lowest_spec (n e : Nat) (hn : n < 9223372036854775808) (he : e ≤ 30) : FSpec env.P 38 [.int .i64 (n : Int), .int .i64 (e : Int)] (dyLV (rdc n e)) := by
  refine FSpec_of_code env_ok (fn := Tryd.f38) Tryd.func38 rfl Tryd.call38 _ _ ?_
  have hz := tz_spec n (by omega)
  have hr := rdc_tz n e (by omega) (by omega)
  have hm : minI (Lib.ctz 64 n : Int) (e : Int) = ((min (Lib.ctz 64 n) e : Nat) : Int) := by unfold minI; split <;> omega
  have wu : IntKind.u64.wrap (n : Int) = (n : Int) := IntWalk.u64_in n ⟨by omega, by omega⟩
  generalize Lib.ctz 64 n = c at hz hr hm
  have hmm : min c e ≤ 30 := by omega
  have hle : min c e ≤ e := Nat.min_le_right _ _
  generalize min c e = t at hr hm hmm hle
  have hs : shrI .i64 (n : Int) (t : Int) = ((n / 2 ^ t : Nat) : Int) := by
    unfold shrI
    rw [show min (Int.toNat (t : Int)) IntKind.i64.bits = t by rw [Int.toNat_natCast]; exact Nat.min_eq_left (by show t ≤ 64; omega)]
    rw [Int.fdiv_eq_ediv_of_nonneg _ (by exact Int.le_of_lt (Int.pow_pos (by omega)))]
    norm_cast
  have hw : IntKind.i64.wrap ((e : Int) - (t : Int)) = ((e - t : Nat) : Int) := by rw [wrap64 (by omega) (by omega)]; omega
  have hwc : IntKind.u64.wrap (n : Int) = (n : Int) := wu
  rw [hr]
  ((repeat ((conv => whnf); first | refine brT ?_ | refine brF ?_)); conv => whnf)
  rw [hwc]
  refine ⟨_, hz, ?_⟩
  ((repeat ((conv => whnf); first | refine brT ?_ | refine brF ?_)); conv => whnf)
  rw [hm]
  ((repeat ((conv => whnf); first | refine brT ?_ | refine brF ?_)); conv => whnf)
  refine ⟨by omega, ?_⟩
  ((repeat ((conv => whnf); first | refine brT ?_ | refine brF ?_)); conv => whnf)
  rw [hs, hw]
  ((repeat ((conv => whnf); first | refine brT ?_ | refine brF ?_)); conv => whnf)
  exact ⟨_, rfl, rfl, by simp [dyLV, exW, exsW]⟩
theorem reduce_spec (n e : Nat) (hn : n < 9223372036854775808) (he : e ≤ 30) : FSpec env.P 37 [.int .i64 (n : Int), .int .i64 (e : Int)] (dyLV (rdc n e)) := by
  refine FSpec_of_code env_ok (fn := Tryd.f37) Tryd.func37 rfl Tryd.call37 _ _ ?_
  ((repeat ((conv => whnf); first | refine brT ?_ | refine brF ?_)); conv => whnf)
  refine loop_rule (α := Nat × Nat) (fun x => [(0, .int .i64 (x.1 : Int)), (1, .int .i64 (x.2 : Int))]) (fun x => [.box (.st [.int .i64 0, .int .i64 0])]) (fun x => x.2) (fun x => x.1 ≤ n ∧ x.2 ≤ e ∧ rdc x.1 x.2 = rdc n e) (n, e) ⟨Nat.le_refl _, Nat.le_refl _, rfl⟩ ?_ ?_
  · refine ⟨?_, ⟨rfl, trivial⟩, rfl, rfl⟩
    ((repeat ((conv => whnf); refine ⟨rfl, rfl, ?_⟩)); trivial)
  rintro ⟨m, j⟩ ⟨h1, h2, h3⟩
  have htm : Int.tmod (m : Int) 2 = ((m % 2 : Nat) : Int) := rfl
  have htd : IntKind.i64.wrap (Int.tdiv (m : Int) 2) = ((m / 2 : Nat) : Int) := by
    rw [show Int.tdiv (m : Int) 2 = ((m / 2 : Nat) : Int) from rfl]; exact wrap64 (by omega) (by have : m ≤ n := h1; omega)
  have hsb : ∀ i : Nat, j = i + 1 → IntKind.i64.wrap ((j : Int) - 1) = (i : Int) := fun i hi => by rw [wrap64 (by omega) (by omega)]; omega
  dsimp only at h1 h2 h3
  generalize hK : kk _ = KK
  ((repeat ((conv => whnf); first | refine brT ?_ | refine brF ?_)); conv => whnf)
  (refine ⟨fun g1 => ?_, fun g1 => ?_⟩ <;> rw [g1])
  · ((repeat ((conv => whnf); first | refine brT ?_ | refine brF ?_)); conv => whnf)
    refine ⟨by decide, ?_⟩
    ((repeat ((conv => whnf); first | refine brT ?_ | refine brF ?_)); conv => whnf)
    rw [htm]
    have hj : 0 < j := by rw [ltI_t] at g1; omega
    obtain ⟨i, rfl⟩ : ∃ i, j = i + 1 := ⟨j - 1, by omega⟩
    (refine ⟨fun g2 => ?_, fun g2 => ?_⟩ <;> rw [g2])
    · ((repeat ((conv => whnf); first | refine brT ?_ | refine brF ?_)); conv => whnf)
      refine ⟨by decide, ?_⟩
      ((repeat ((conv => whnf); first | refine brT ?_ | refine brF ?_)); conv => whnf)
      rw [htd, hsb i rfl]
      subst hK
      have he : m % 2 = 0 := by rw [eqI_t] at g2; omega
      rw [rdc_even he] at h3
      refine round_end (m / 2, i) ⟨by show m / 2 ≤ n; omega, by show i ≤ e; omega, h3⟩ (by show i < i + 1; omega) ⟨?_, ⟨rfl, trivial⟩, rfl, rfl⟩
      ((repeat ((conv => whnf); refine ⟨rfl, rfl, ?_⟩)); trivial)
    · ((repeat ((conv => whnf); first | refine brT ?_ | refine brF ?_)); conv => whnf)
      subst hK
      have he : m % 2 = 1 := by rw [eqI_f] at g2; omega
      rw [rdc_odd' he] at h3
      rw [← h3]
      ((repeat ((conv => whnf); first | refine brT ?_ | refine brF ?_)); conv => whnf)
      exact ⟨_, rfl, rfl, by simp [dyLV, exW, exsW]⟩
  · have hj : j = 0 := by rw [ltI_f] at g1; omega
    subst hj
    rw [show rdc m 0 = (m, 0) from rfl] at h3
    subst hK
    ((repeat ((conv => whnf); first | refine brT ?_ | refine brF ?_)); conv => whnf)
    rw [← h3]
    exact ⟨_, rfl, rfl, by simp [dyLV, exW, exsW]⟩
def dyOK (n e : Int) : Bool := (leI 0 n && leI n 1073741824) && (leI 0 e && leI e 30)
theorem dyOK_t {n e : Int} : dyOK n e = true ↔ (0 ≤ n ∧ n ≤ 1073741824) ∧ (0 ≤ e ∧ e ≤ 30) := by
  unfold dyOK; rw [Bool.and_eq_true_iff, Bool.and_eq_true_iff, Bool.and_eq_true_iff, leI_t, leI_t, leI_t, leI_t]
def dyD (n e : Int) : Nat × Nat := match dyOK n e with | true => rdc n.toNat e.toNat | false => (0, 0)
theorem dyD_no {n e : Int} (h : dyOK n e = false) : dyD n e = (0, 0) := by unfold dyD; rw [h]
theorem dyD_yes {n e : Int} (h : dyOK n e = true) : dyD n e = rdc n.toNat e.toNat := by unfold dyD; rw [h]
theorem dyOK_no {n e : Int} (h : ¬((0 ≤ n ∧ n ≤ 1073741824) ∧ (0 ≤ e ∧ e ≤ 30))) : dyOK n e = false := by
  cases hc : dyOK n e with
  | true => exact absurd (dyOK_t.1 hc) h
  | false => rfl
theorem dyadOf_impl (n e : Int) : FSpec env.P 13 [.int .i64 n, .int .i64 e] (.tup [dyLV (dyD n e), .bool (dyOK n e)]) := by
  refine FSpec_of_code env_ok (fn := Tryd.f13) Tryd.func13 rfl Tryd.call13 _ _ ?_
  ((repeat ((conv => whnf); first | refine brT ?_ | refine brF ?_)); conv => whnf)
  (refine ⟨fun c1 => ?_, fun c1 => ?_⟩ <;> rw [c1])
  · have h := dyOK_no (n := n) (e := e) (by rw [ltI_t] at c1; omega)
    rw [dyD_no h, h]
    ((repeat ((conv => whnf); first | refine brT ?_ | refine brF ?_)); conv => whnf)
    (refine ⟨_, rfl, rfl, ?_⟩; unfold dyLV; repeat (first | exact List.nodup_nil | refine ⟨rfl, ?_⟩))
  ((repeat ((conv => whnf); first | refine brT ?_ | refine brF ?_)); conv => whnf)
  (refine ⟨fun c2 => ?_, fun c2 => ?_⟩ <;> rw [c2])
  · have h := dyOK_no (n := n) (e := e) (by rw [ltI_t] at c2; omega)
    rw [dyD_no h, h]
    ((repeat ((conv => whnf); first | refine brT ?_ | refine brF ?_)); conv => whnf)
    (refine ⟨_, rfl, rfl, ?_⟩; unfold dyLV; repeat (first | exact List.nodup_nil | refine ⟨rfl, ?_⟩))
  ((repeat ((conv => whnf); first | refine brT ?_ | refine brF ?_)); conv => whnf)
  (refine ⟨fun c3 => ?_, fun c3 => ?_⟩ <;> rw [c3])
  · have h := dyOK_no (n := n) (e := e) (by rw [ltI_t] at c3; omega)
    rw [dyD_no h, h]
    ((repeat ((conv => whnf); first | refine brT ?_ | refine brF ?_)); conv => whnf)
    (refine ⟨_, rfl, rfl, ?_⟩; unfold dyLV; repeat (first | exact List.nodup_nil | refine ⟨rfl, ?_⟩))
  ((repeat ((conv => whnf); first | refine brT ?_ | refine brF ?_)); conv => whnf)
  (refine ⟨fun c4 => ?_, fun c4 => ?_⟩ <;> rw [c4])
  · have h := dyOK_no (n := n) (e := e) (by rw [ltI_t] at c4; omega)
    rw [dyD_no h, h]
    ((repeat ((conv => whnf); first | refine brT ?_ | refine brF ?_)); conv => whnf)
    (refine ⟨_, rfl, rfl, ?_⟩; unfold dyLV; repeat (first | exact List.nodup_nil | refine ⟨rfl, ?_⟩))
  rw [ltI_f] at c1 c2 c3 c4
  have h := dyOK_t.2 (show (0 ≤ n ∧ n ≤ 1073741824) ∧ (0 ≤ e ∧ e ≤ 30) by omega)
  rw [dyD_yes h, h]
  have hl := lowest_spec n.toNat e.toNat (by omega) (by omega)
  rw [Int.toNat_of_nonneg (by omega), Int.toNat_of_nonneg (by omega)] at hl
  generalize rdc n.toNat e.toNat = d at hl
  ((repeat ((conv => whnf); first | refine brT ?_ | refine brF ?_)); conv => whnf)
  refine ⟨_, hl, ?_⟩
  ((repeat ((conv => whnf); first | refine brT ?_ | refine brF ?_)); conv => whnf)
  (refine ⟨_, rfl, rfl, ?_⟩; unfold dyLV; repeat (first | exact List.nodup_nil | refine ⟨rfl, ?_⟩))
def eqDy (a b : Int × Int) : Bool := eqI a.1 b.1 && eqI a.2 b.2
def idLV (d : Int × Int) : LV := .st [.int .i64 d.1, .int .i64 d.2]
theorem eqDyad_spec (a b : Int × Int) : FSpec env.P 14 [idLV a, idLV b] (.bool (eqDy a b)) := by
  refine FSpec_of_code env_ok (fn := Tryd.f14) Tryd.func14 rfl Tryd.call14 _ _ ?_
  unfold eqDy
  ((repeat' (((repeat ((conv => whnf); first | refine brT ?_ | refine brF ?_)); conv => whnf); (refine And.intro ?_ ?_ <;> (intro h; rw [h]; revert h; intro _)))); all_goals ((repeat ((conv => whnf); first | refine brT ?_ | refine brF ?_)); conv => whnf))
  all_goals (refine fin ?_; simp_all [notB])
end Go.Proofs.YtplkockghigpdaaDoor


namespace Go.Proofs.YtplkockghigpdaaDoor
open Go.Lg
set_option maxHeartbeats 3200000
set_option maxRecDepth 10000
set_option linter.unusedVariables false
set_option linter.unusedSimpArgs false

/-! ### Adding dyads -/
def vd (n e : Int) : Bool := dyOK n e && (eqI e 0 || eqI (Int.tmod n 2) 1)
theorem vd_nat {n e : Int} (h : vd n e = true) : ∃ a b : Nat, n = a ∧ e = b ∧ a ≤ 1073741824 ∧ b ≤ 30 ∧ rdc a b = (a, b) := by
  unfold vd at h
  obtain ⟨h1, h2⟩ := Bool.and_eq_true_iff.1 h
  rw [dyOK_t] at h1
  refine ⟨n.toNat, e.toNat, by omega, by omega, by omega, by omega, rdc_fix.2 ?_⟩
  rcases Bool.or_eq_true_iff.1 h2 with h3 | h3
  · rw [eqI_t] at h3; left; omega
  · rw [eqI_t] at h3; right
    have : Int.tmod n 2 = n % 2 := by rw [Int.tmod_eq_emod_of_nonneg (by omega)]
    omega
theorem vd_same (n e : Int) : (dyOK n e && (eqI n ((dyD n e).1 : Int) && eqI e ((dyD n e).2 : Int))) = vd n e := by
  unfold vd
  cases h : dyOK n e with
  | false => rfl
  | true =>
    rw [dyD_yes h]
    rw [dyOK_t] at h
    obtain ⟨a, rfl⟩ : ∃ a : Nat, n = a := ⟨n.toNat, by omega⟩
    obtain ⟨b, rfl⟩ : ∃ b : Nat, e = b := ⟨e.toNat, by omega⟩
    simp only [Bool.true_and, Int.toNat_natCast]
    have ht : Int.tmod (a : Int) 2 = ((a % 2 : Nat) : Int) := rfl
    rw [ht]
    rw [Bool.eq_iff_iff, Bool.and_eq_true_iff, Bool.or_eq_true_iff, eqI_t, eqI_t, eqI_t, eqI_t]
    have hf := @rdc_fix a b
    constructor
    · rintro ⟨h1, h2⟩
      have : rdc a b = (a, b) := Prod.ext (by show (rdc a b).1 = a; omega) (by show (rdc a b).2 = b; omega)
      rcases hf.1 this with h | h <;> omega
    · intro h1
      have : rdc a b = (a, b) := hf.2 (by omega)
      rw [this]; exact ⟨rfl, rfl⟩
theorem valid_spec (n e : Int) : FSpec env.P 39 [idLV (n, e)] (.bool (vd n e)) := by
  refine FSpec_of_code env_ok (fn := Tryd.f39) Tryd.func39 rfl Tryd.call39 _ _ ?_
  unfold vd dyOK
  ((repeat ((conv => whnf); first | refine brT ?_ | refine brF ?_)); conv => whnf)
  refine ⟨_, l1In_spec n 0 1073741824, ?_⟩
  ((repeat ((conv => whnf); first | refine brT ?_ | refine brF ?_)); conv => whnf)
  (refine ⟨fun c1 => ?_, fun c1 => ?_⟩ <;> rw [c1])
  · ((repeat ((conv => whnf); first | refine brT ?_ | refine brF ?_)); conv => whnf)
    refine ⟨_, l1In_spec e 0 30, ?_⟩
    ((repeat ((conv => whnf); first | refine brT ?_ | refine brF ?_)); conv => whnf)
    (refine ⟨fun c2 => ?_, fun c2 => ?_⟩ <;> rw [c2])
    · ((repeat ((conv => whnf); first | refine brT ?_ | refine brF ?_)); conv => whnf)
      (refine ⟨fun c3 => ?_, fun c3 => ?_⟩ <;> rw [c3])
      · ((repeat ((conv => whnf); first | refine brT ?_ | refine brF ?_)); conv => whnf); exact fin rfl
      · ((repeat ((conv => whnf); first | refine brT ?_ | refine brF ?_)); conv => whnf)
        refine ⟨by decide, ?_⟩
        ((repeat ((conv => whnf); first | refine brT ?_ | refine brF ?_)); conv => whnf)
        exact fin (by simp)
    · ((repeat ((conv => whnf); first | refine brT ?_ | refine brF ?_)); conv => whnf); exact fin (by simp)
  · ((repeat ((conv => whnf); first | refine brT ?_ | refine brF ?_)); conv => whnf); exact fin (by simp)
theorem isDyad_spec (n e : Int) : FSpec env.P 41 [idLV (n, e)] (.bool (vd n e)) := by
  refine FSpec_of_code env_ok (fn := Tryd.f41) Tryd.func41 rfl Tryd.call41 _ _ ?_
  have hD := dyadOf_impl n e
  have hs := vd_same n e
  generalize dyD n e = d at hD hs
  ((repeat ((conv => whnf); first | refine brT ?_ | refine brF ?_)); conv => whnf)
  refine ⟨_, hD, ?_⟩
  ((repeat ((conv => whnf); first | refine brT ?_ | refine brF ?_)); conv => whnf)
  (refine ⟨fun c1 => ?_, fun c1 => ?_⟩ <;> rw [c1])
  · ((repeat ((conv => whnf); first | refine brT ?_ | refine brF ?_)); conv => whnf)
    rw [c1] at hs
    refine fin ?_
    rw [← hs]
    simp [eq1, eqAll]
  · ((repeat ((conv => whnf); first | refine brT ?_ | refine brF ?_)); conv => whnf)
    rw [c1] at hs
    exact fin hs
theorem shl_nat (a t : Nat) (h : a * 2 ^ t < 9223372036854775808) (ht : t ≤ 30) : shlI .i64 (a : Int) (t : Int) = ((a * 2 ^ t : Nat) : Int) := by
  unfold shlI
  rw [show min (Int.toNat (t : Int)) IntKind.i64.bits = t by rw [Int.toNat_natCast]; exact Nat.min_eq_left (by show t ≤ 64; omega)]
  have e : (a : Int) * 2 ^ t = ((a * 2 ^ t : Nat) : Int) := by push_cast; rfl
  rw [e]
  exact wrap64 (by omega) (by omega)
theorem dv_small {a b : Nat} (ha : a ≤ 1073741824) : dv (a, b) ≤ 1152921504606846976 := by
  unfold dv
  have h1 : 2 ^ (30 - b) ≤ 2 ^ 30 := Nat.pow_le_pow_right (by omega) (by omega)
  have := Nat.mul_le_mul ha h1
  exact Nat.le_trans this (by decide)
theorem parts_spec (a b : Nat) (ha : a ≤ 1073741824) (hb : b ≤ 30) : FSpec env.P 42 [idLV (a, b)] (.int .i64 (dv (a, b) : Nat)) := by
  refine FSpec_of_code env_ok (fn := Tryd.f42) Tryd.func42 rfl Tryd.call42 _ _ ?_
  have hd := dv_small (b := b) ha
  have hs := shl_nat a (30 - b) (by unfold dv at hd; exact Nat.lt_of_le_of_lt hd (by omega)) (by omega)
  have hw : IntKind.i64.wrap (30 - (b : Int)) = ((30 - b : Nat) : Int) := by rw [wrap64 (by omega) (by omega)]; omega
  ((repeat ((conv => whnf); first | refine brT ?_ | refine brF ?_)); conv => whnf)
  rw [hw]
  refine ⟨by omega, ?_⟩
  ((repeat ((conv => whnf); first | refine brT ?_ | refine brF ?_)); conv => whnf)
  rw [hs]
  exact ⟨rfl, rfl, List.nodup_nil⟩
theorem dv_two {m j : Nat} (h : j + 1 ≤ 30) : dv (2 * m, j + 1) = dv (m, j) := by
  unfold dv
  show 2 * m * 2 ^ (30 - (j + 1)) = m * 2 ^ (30 - j)
  rw [show 30 - j = (30 - (j + 1)) + 1 by omega, Nat.pow_succ, Nat.mul_comm 2 m, Nat.mul_assoc, Nat.mul_comm 2]
theorem le_dv (d : Nat × Nat) : d.1 ≤ dv d := Nat.le_mul_of_pos_right _ (Nat.two_pow_pos _)
theorem dv_add (x y e : Nat) : dv (x + y, e) = dv (x, e) + dv (y, e) := by unfold dv; exact Nat.add_mul _ _ _
theorem add_spec (a b c d : Nat) (ha : a ≤ 1073741824) (hb : b ≤ 30) (hc : c ≤ 1073741824) (hd : d ≤ 30) : FSpec env.P 40 [idLV (a, b), idLV (c, d)] (dyLV (rd (dv (a, b) + dv (c, d)))) := by
  refine FSpec_of_code env_ok (fn := Tryd.f40) Tryd.func40 rfl Tryd.call40 _ _ ?_
  have s1 := dv_small (b := b) ha
  have s2 := dv_small (b := d) hc
  ((repeat ((conv => whnf); first | refine brT ?_ | refine brF ?_)); conv => whnf)
  refine loop_rule (α := Nat × Nat) (fun x => []) (fun x => [.box (.st [.int .i64 (x.1 : Int), .int .i64 (x.2 : Int)]), .box (.st [.int .i64 (c : Int), .int .i64 (d : Int)]), .box (.st [.int .i64 0, .int .i64 0])]) (fun x => 30 - x.2) (fun x => x.2 ≤ 30 ∧ dv x = dv (a, b)) (a, b) ⟨hb, rfl⟩ ?_ ?_
  · refine ⟨?_, ⟨rfl, rfl, rfl, trivial⟩, rfl, rfl⟩
    ((repeat ((conv => whnf); refine ⟨rfl, ?_⟩)); trivial)
  rintro ⟨m, j⟩ ⟨h1, h2⟩
  have hm := le_dv (m, j)
  dsimp only at h1 hm
  rw [h2] at hm
  have w1 : IntKind.i64.wrap (2 * (m : Int)) = ((2 * m : Nat) : Int) := by rw [wrap64 (by omega) (by omega)]; omega
  have w2 : IntKind.i64.wrap ((j : Int) + 1) = ((j + 1 : Nat) : Int) := by rw [wrap64 (by omega) (by omega)]; omega
  generalize hK : kk _ = KK
  ((repeat ((conv => whnf); first | refine brT ?_ | refine brF ?_)); conv => whnf)
  (refine ⟨fun g1 => ?_, fun g1 => ?_⟩ <;> rw [g1])
  · have hlt : j + 1 ≤ 30 := by rw [ltI_t] at g1; have : (j : Int) < d := g1; omega
    ((repeat ((conv => whnf); first | refine brT ?_ | refine brF ?_)); conv => whnf)
    rw [w1, w2]
    subst hK
    refine round_end (2 * m, j + 1) ⟨hlt, by rw [dv_two hlt]; exact h2⟩ (by show 30 - (j + 1) < 30 - j; omega) ⟨?_, ⟨rfl, rfl, rfl, trivial⟩, rfl, rfl⟩
    ((repeat ((conv => whnf); refine ⟨rfl, ?_⟩)); trivial)
  have hge : d ≤ j := by rw [ltI_f] at g1; have : (d : Int) ≤ j := g1; omega
  subst hK
  ((repeat ((conv => whnf); first | refine brT ?_ | refine brF ?_)); conv => whnf)
  refine loop_rule (α := Nat × Nat) (fun x => []) (fun x => [.box (.st [.int .i64 (m : Int), .int .i64 (j : Int)]), .box (.st [.int .i64 (x.1 : Int), .int .i64 (x.2 : Int)]), .box (.st [.int .i64 0, .int .i64 0])]) (fun x => 30 - x.2) (fun x => x.2 ≤ j ∧ dv x = dv (c, d)) (c, d) ⟨hge, rfl⟩ ?_ ?_
  · refine ⟨?_, ⟨rfl, rfl, rfl, trivial⟩, rfl, rfl⟩
    ((repeat ((conv => whnf); refine ⟨rfl, ?_⟩)); trivial)
  rintro ⟨n, i⟩ ⟨h3, h4⟩
  have hn := le_dv (n, i)
  dsimp only at h3 hn
  rw [h4] at hn
  have w3 : IntKind.i64.wrap (2 * (n : Int)) = ((2 * n : Nat) : Int) := by rw [wrap64 (by omega) (by omega)]; omega
  have w4 : IntKind.i64.wrap ((i : Int) + 1) = ((i + 1 : Nat) : Int) := by rw [wrap64 (by omega) (by omega)]; omega
  generalize hK : kk _ = KK
  ((repeat ((conv => whnf); first | refine brT ?_ | refine brF ?_)); conv => whnf)
  (refine ⟨fun g2 => ?_, fun g2 => ?_⟩ <;> rw [g2])
  · have hlt : i + 1 ≤ j := by rw [ltI_t] at g2; have : (i : Int) < j := g2; omega
    ((repeat ((conv => whnf); first | refine brT ?_ | refine brF ?_)); conv => whnf)
    rw [w3, w4]
    subst hK
    refine round_end (2 * n, i + 1) ⟨hlt, by rw [dv_two (by omega)]; exact h4⟩ (by show 30 - (i + 1) < 30 - i; omega) ⟨?_, ⟨rfl, rfl, rfl, trivial⟩, rfl, rfl⟩
    ((repeat ((conv => whnf); refine ⟨rfl, ?_⟩)); trivial)
  obtain rfl : i = j := by rw [ltI_f] at g2; have : (j : Int) ≤ i := g2; omega
  have w5 : IntKind.i64.wrap ((m : Int) + (n : Int)) = ((m + n : Nat) : Int) := by rw [wrap64 (by omega) (by omega)]; omega
  have hr := reduce_spec (m + n) i (by omega) h1
  have he : rdc (m + n) i = rd (dv (a, b) + dv (c, d)) := by rw [← h2, ← h4, ← dv_add]; exact (rd_dv (d := (m + n, i)) h1).symm
  rw [he] at hr
  subst hK
  ((repeat ((conv => whnf); first | refine brT ?_ | refine brF ?_)); conv => whnf)
  rw [w5]
  refine ⟨_, hr, ?_⟩
  ((repeat ((conv => whnf); first | refine brT ?_ | refine brF ?_)); conv => whnf)
  exact ⟨_, rfl, rfl, by simp [dyLV, exW, exsW]⟩
end Go.Proofs.YtplkockghigpdaaDoor


namespace Go.Proofs.YtplkockghigpdaaDoor
open Go.Lg
set_option maxHeartbeats 3200000
set_option maxRecDepth 10000
set_option linter.unusedVariables false
set_option linter.unusedSimpArgs false

theorem weak_idD {n0 : Nat} {ts : List LV} {H : List Blk} (h1 : wk ts ts) (h2 : wkH n0 H H) (h3 : (scs (below H.length) ts && H.all (scB (below H.length))) = true) : Weak n0 ts H ts H := by
  simp only [Bool.and_eq_true] at h3
  exact .inl ⟨h1, h2, h3.1, h3.2⟩
def adS (x y : Int × Int) : Nat × Nat := rd (dv (x.1.toNat, x.2.toNat) + dv (y.1.toNat, y.2.toNat))
def adB (x y : Int × Int) : Bool := vd x.1 x.2 && vd y.1 y.2 && leI (adS x y).1 1073741824
def adD (x y : Int × Int) : Nat × Nat := match adB x y with | true => adS x y | false => (0, 0)
theorem adD_no {x y : Int × Int} (h : adB x y = false) : adD x y = (0, 0) := by unfold adD; rw [h]
theorem adD_yes {x y : Int × Int} (h : adB x y = true) : adD x y = adS x y := by unfold adD; rw [h]
theorem vd_rd {v : Nat} : vd ((rd v).1 : Int) ((rd v).2 : Int) = leI ((rd v).1 : Int) 1073741824 := by
  unfold vd
  have h1 := rd_exp v
  have h2 := rdc_low 30 v
  cases h : leI ((rd v).1 : Int) 1073741824 with
  | false =>
    rw [dyOK_no (by rw [leI_f] at h; omega)]; rfl
  | true =>
    rw [leI_t] at h
    rw [dyOK_t.2 ⟨⟨by omega, by omega⟩, ⟨by omega, by omega⟩⟩]
    rw [Bool.true_and, Bool.or_eq_true_iff, eqI_t, eqI_t]
    rcases h2 with h | h
    · left; show ((rd v).2 : Int) = 0; unfold rd; omega
    · right
      show ((((rd v).1) % 2 : Nat) : Int) = 1
      unfold rd; omega
theorem addD_spec (x y : Int × Int) : FSpec env.P 15 [idLV x, idLV y] (.tup [dyLV (adD x y), .bool (adB x y)]) := by
  refine FSpec_of_code env_ok (fn := Tryd.f15) Tryd.func15 rfl Tryd.call15 _ _ ?_
  obtain ⟨a, b⟩ := x
  obtain ⟨c, d⟩ := y
  have v1 := valid_spec a b
  have v2 := valid_spec c d
  cases h1 : vd a b with
  | false =>
    have hB : adB (a, b) (c, d) = false := by unfold adB; rw [show vd (a, b).1 (a, b).2 = false from h1]; rfl
    rw [adD_no hB, hB]
    rw [h1] at v1
    ((repeat ((conv => whnf); first | refine brT ?_ | refine brF ?_)); conv => whnf)
    refine ⟨_, v1, ?_⟩
    ((repeat ((conv => whnf); first | refine brT ?_ | refine brF ?_)); conv => whnf)
    rw [show notB false = true by simp [notB]]
    ((repeat ((conv => whnf); first | refine brT ?_ | refine brF ?_)); conv => whnf)
    (refine ⟨_, rfl, rfl, ?_⟩; unfold dyLV; repeat (first | exact List.nodup_nil | refine ⟨rfl, ?_⟩))
  | true =>
  cases h2 : vd c d with
  | false =>
    have hB : adB (a, b) (c, d) = false := by unfold adB; rw [show vd (c, d).1 (c, d).2 = false from h2]; simp
    rw [adD_no hB, hB]
    rw [h1] at v1
    rw [h2] at v2
    ((repeat ((conv => whnf); first | refine brT ?_ | refine brF ?_)); conv => whnf)
    refine ⟨_, v1, ?_⟩
    ((repeat ((conv => whnf); first | refine brT ?_ | refine brF ?_)); conv => whnf)
    rw [show notB true = false by simp [notB]]
    ((repeat ((conv => whnf); first | refine brT ?_ | refine brF ?_)); conv => whnf)
    refine ⟨_, v2, ?_⟩
    ((repeat ((conv => whnf); first | refine brT ?_ | refine brF ?_)); conv => whnf)
    rw [show notB false = true by simp [notB]]
    ((repeat ((conv => whnf); first | refine brT ?_ | refine brF ?_)); conv => whnf)
    (refine ⟨_, rfl, rfl, ?_⟩; unfold dyLV; repeat (first | exact List.nodup_nil | refine ⟨rfl, ?_⟩))
  | true =>
  have hB : adB (a, b) (c, d) = leI (adS (a, b) (c, d)).1 1073741824 := by unfold adB; rw [show vd (a, b).1 (a, b).2 = true from h1, show vd (c, d).1 (c, d).2 = true from h2]; rfl
  rw [h1] at v1
  rw [h2] at v2
  obtain ⟨a, b, rfl, rfl, a1, b1, _⟩ := vd_nat h1
  obtain ⟨c, d, rfl, rfl, c1, d1, _⟩ := vd_nat h2
  have hA := add_spec a b c d a1 b1 c1 d1
  have hS : adS ((a : Int), (b : Int)) ((c : Int), (d : Int)) = rd (dv (a, b) + dv (c, d)) := rfl
  have v3 := valid_spec ((rd (dv (a, b) + dv (c, d))).1 : Int) ((rd (dv (a, b) + dv (c, d))).2 : Int)
  rw [vd_rd] at v3
  rw [hS] at hB
  cases h3 : leI ((rd (dv (a, b) + dv (c, d))).1 : Int) 1073741824 with
  | false =>
    rw [h3] at hB v3
    rw [adD_no hB, hB]
    generalize rd (dv (a, b) + dv (c, d)) = s at hA v3
    ((repeat ((conv => whnf); first | refine brT ?_ | refine brF ?_)); conv => whnf)
    refine ⟨_, v1, ?_⟩
    ((repeat ((conv => whnf); first | refine brT ?_ | refine brF ?_)); conv => whnf)
    rw [show notB true = false by simp [notB]]
    ((repeat ((conv => whnf); first | refine brT ?_ | refine brF ?_)); conv => whnf)
    refine ⟨_, v2, ?_⟩
    ((repeat ((conv => whnf); first | refine brT ?_ | refine brF ?_)); conv => whnf)
    rw [show notB true = false by simp [notB]]
    ((repeat ((conv => whnf); first | refine brT ?_ | refine brF ?_)); conv => whnf)
    refine ⟨_, hA, ?_⟩
    ((repeat ((conv => whnf); first | refine brT ?_ | refine brF ?_)); conv => whnf)
    refine ⟨_, v3, ?_⟩
    ((repeat ((conv => whnf); first | refine brT ?_ | refine brF ?_)); conv => whnf)
    rw [show notB false = true by simp [notB]]
    ((repeat ((conv => whnf); first | refine brT ?_ | refine brF ?_)); conv => whnf)
    (refine ⟨_, rfl, rfl, ?_⟩; unfold dyLV; repeat (first | exact List.nodup_nil | refine ⟨rfl, ?_⟩))
  | true =>
    rw [h3] at hB v3
    rw [adD_yes hB, hB, hS]
    generalize rd (dv (a, b) + dv (c, d)) = s at hA v3
    ((repeat ((conv => whnf); first | refine brT ?_ | refine brF ?_)); conv => whnf)
    refine ⟨_, v1, ?_⟩
    ((repeat ((conv => whnf); first | refine brT ?_ | refine brF ?_)); conv => whnf)
    rw [show notB true = false by simp [notB]]
    ((repeat ((conv => whnf); first | refine brT ?_ | refine brF ?_)); conv => whnf)
    refine ⟨_, v2, ?_⟩
    ((repeat ((conv => whnf); first | refine brT ?_ | refine brF ?_)); conv => whnf)
    rw [show notB true = false by simp [notB]]
    ((repeat ((conv => whnf); first | refine brT ?_ | refine brF ?_)); conv => whnf)
    refine ⟨_, hA, ?_⟩
    ((repeat ((conv => whnf); first | refine brT ?_ | refine brF ?_)); conv => whnf)
    refine ⟨_, v3, ?_⟩
    ((repeat ((conv => whnf); first | refine brT ?_ | refine brF ?_)); conv => whnf)
    rw [show notB true = false by simp [notB]]
    ((repeat ((conv => whnf); first | refine brT ?_ | refine brF ?_)); conv => whnf)
    (refine ⟨_, rfl, rfl, ?_⟩; unfold dyLV; repeat (first | exact List.nodup_nil | refine ⟨rfl, ?_⟩))
theorem addD_impl (x y : Int × Int) : FSpec env.P 17 [idLV x, idLV y] (.tup [dyLV (adD x y), .bool (adB x y)]) := by
  refine FSpec_of_code env_ok (fn := Tryd.f17) Tryd.func17 rfl Tryd.call17 _ _ ?_
  obtain ⟨a, b⟩ := x
  obtain ⟨c, d⟩ := y
  have v1 := isDyad_spec a b
  have v2 := isDyad_spec c d
  cases h1 : vd a b with
  | false =>
    have hB : adB (a, b) (c, d) = false := by unfold adB; rw [show vd (a, b).1 (a, b).2 = false from h1]; rfl
    rw [adD_no hB, hB]
    rw [h1] at v1
    ((repeat ((conv => whnf); first | refine brT ?_ | refine brF ?_)); conv => whnf)
    refine ⟨_, v1, ?_⟩
    ((repeat ((conv => whnf); first | refine brT ?_ | refine brF ?_)); conv => whnf)
    rw [show notB false = true by simp [notB]]
    ((repeat ((conv => whnf); first | refine brT ?_ | refine brF ?_)); conv => whnf)
    (refine ⟨_, rfl, rfl, ?_⟩; unfold dyLV; repeat (first | exact List.nodup_nil | refine ⟨rfl, ?_⟩))
  | true =>
  cases h2 : vd c d with
  | false =>
    have hB : adB (a, b) (c, d) = false := by unfold adB; rw [show vd (c, d).1 (c, d).2 = false from h2]; simp
    rw [adD_no hB, hB]
    rw [h1] at v1
    rw [h2] at v2
    ((repeat ((conv => whnf); first | refine brT ?_ | refine brF ?_)); conv => whnf)
    refine ⟨_, v1, ?_⟩
    ((repeat ((conv => whnf); first | refine brT ?_ | refine brF ?_)); conv => whnf)
    rw [show notB true = false by simp [notB]]
    ((repeat ((conv => whnf); first | refine brT ?_ | refine brF ?_)); conv => whnf)
    refine ⟨_, v2, ?_⟩
    ((repeat ((conv => whnf); first | refine brT ?_ | refine brF ?_)); conv => whnf)
    rw [show notB false = true by simp [notB]]
    ((repeat ((conv => whnf); first | refine brT ?_ | refine brF ?_)); conv => whnf)
    (refine ⟨_, rfl, rfl, ?_⟩; unfold dyLV; repeat (first | exact List.nodup_nil | refine ⟨rfl, ?_⟩))
  | true =>
  have hB : adB (a, b) (c, d) = leI (adS (a, b) (c, d)).1 1073741824 := by unfold adB; rw [show vd (a, b).1 (a, b).2 = true from h1, show vd (c, d).1 (c, d).2 = true from h2]; rfl
  rw [h1] at v1
  rw [h2] at v2
  obtain ⟨a, b, rfl, rfl, a1, b1, _⟩ := vd_nat h1
  obtain ⟨c, d, rfl, rfl, c1, d1, _⟩ := vd_nat h2
  have hS : adS ((a : Int), (b : Int)) ((c : Int), (d : Int)) = rd (dv (a, b) + dv (c, d)) := rfl
  rw [hS] at hB
  have s1 := dv_small (b := b) a1
  have s2 := dv_small (b := d) c1
  have p1 := parts_spec a b a1 b1
  have p2 := parts_spec c d c1 d1
  have hw : IntKind.i64.wrap ((dv (a, b) : Int) + (dv (c, d) : Int)) = ((dv (a, b) + dv (c, d) : Nat) : Int) := by rw [wrap64 (by omega) (by omega)]; omega
  have hl := lowest_spec (dv (a, b) + dv (c, d)) 30 (by omega) (Nat.le_refl _)
  have hlr : rdc (dv (a, b) + dv (c, d)) 30 = rd (dv (a, b) + dv (c, d)) := rfl
  rw [hlr] at hl
  have hD : ∀ B, adB ((a : Int), (b : Int)) ((c : Int), (d : Int)) = B → adD ((a : Int), (b : Int)) ((c : Int), (d : Int)) = (match B with | true => rd (dv (a, b) + dv (c, d)) | false => (0, 0)) := fun B h => by unfold adD; rw [h, hS]
  rw [hD _ hB, hB]
  generalize rd (dv (a, b) + dv (c, d)) = s at hl
  ((repeat ((conv => whnf); first | refine brT ?_ | refine brF ?_)); conv => whnf)
  refine ⟨_, v1, ?_⟩
  ((repeat ((conv => whnf); first | refine brT ?_ | refine brF ?_)); conv => whnf)
  rw [show notB true = false by simp [notB]]
  ((repeat ((conv => whnf); first | refine brT ?_ | refine brF ?_)); conv => whnf)
  refine ⟨_, v2, ?_⟩
  ((repeat ((conv => whnf); first | refine brT ?_ | refine brF ?_)); conv => whnf)
  rw [show notB true = false by simp [notB]]
  ((repeat ((conv => whnf); first | refine brT ?_ | refine brF ?_)); conv => whnf)
  refine ⟨false, 0, 0, 0, [0, 2], (.alt 1 (.alt 3 (.alt 4 (.alt 5 (.one 6 (.one 7 .done)) (.one 6 (.one 5 (.one 7 .done)))) (.one 6 (.one 4 (.one 5 (.one 7 .done))))) (.one 6 (.one 3 (.one 4 (.one 5 (.one 7 .done)))))) (.one 6 (.one 1 (.one 3 (.one 4 (.one 5 (.one 7 .done))))))), by kernel_rfl, ?_⟩
  ((repeat ((conv => whnf); first | refine brT ?_ | refine brF ?_)); conv => whnf)
  apply Exists.intro; apply Exists.intro
  refine And.intro ?_ ?_
  · ((repeat ((conv => whnf); first | refine brT ?_ | refine brF ?_)); conv => whnf)
    refine And.intro ?_ ?_
    · ((repeat ((conv => whnf); first | refine brT ?_ | refine brF ?_)); conv => whnf)
      refine ⟨_, p1, ?_⟩
      ((repeat ((conv => whnf); first | refine brT ?_ | refine brF ?_)); conv => whnf)
      refine And.intro ?_ ?_
      · ((repeat ((conv => whnf); first | refine brT ?_ | refine brF ?_)); conv => whnf)
        refine ⟨_, p2, ?_⟩
        ((repeat ((conv => whnf); first | refine brT ?_ | refine brF ?_)); conv => whnf)
        refine And.intro ?_ ?_
        · ((repeat ((conv => whnf); first | refine brT ?_ | refine brF ?_)); conv => whnf)
          rw [hw]
          ((repeat ((conv => whnf); first | refine brT ?_ | refine brF ?_)); conv => whnf)
          refine And.intro ?_ ?_
          · ((repeat ((conv => whnf); first | refine brT ?_ | refine brF ?_)); conv => whnf)
            refine ⟨_, hl, ?_⟩
            ((repeat ((conv => whnf); first | refine brT ?_ | refine brF ?_)); conv => whnf)
            refine weak_idD ?_ ?_ rfl
            · ((repeat ((conv => whnf); refine ⟨rfl, ?_⟩)); trivial)
            · exact ⟨rfl, rfl, rfl, rfl, trivial⟩
          · ((repeat ((conv => whnf); first | refine brT ?_ | refine brF ?_)); conv => whnf)
            refine ⟨_, hl, ?_⟩
            ((repeat ((conv => whnf); first | refine brT ?_ | refine brF ?_)); conv => whnf)
            refine weak_idD ?_ ?_ rfl
            · ((repeat ((conv => whnf); refine ⟨rfl, ?_⟩)); trivial)
            · exact ⟨rfl, rfl, rfl, rfl, trivial⟩
        · ((repeat ((conv => whnf); first | refine brT ?_ | refine brF ?_)); conv => whnf)
          rw [hw]
          ((repeat ((conv => whnf); first | refine brT ?_ | refine brF ?_)); conv => whnf)
          refine ⟨_, hl, ?_⟩
          ((repeat ((conv => whnf); first | refine brT ?_ | refine brF ?_)); conv => whnf)
          refine weak_idD ?_ ?_ rfl
          · ((repeat ((conv => whnf); refine ⟨rfl, ?_⟩)); trivial)
          · exact ⟨rfl, rfl, rfl, rfl, trivial⟩
      · ((repeat ((conv => whnf); first | refine brT ?_ | refine brF ?_)); conv => whnf)
        refine ⟨_, p2, ?_⟩
        ((repeat ((conv => whnf); first | refine brT ?_ | refine brF ?_)); conv => whnf)
        rw [hw]
        ((repeat ((conv => whnf); first | refine brT ?_ | refine brF ?_)); conv => whnf)
        refine ⟨_, hl, ?_⟩
        ((repeat ((conv => whnf); first | refine brT ?_ | refine brF ?_)); conv => whnf)
        refine weak_idD ?_ ?_ rfl
        · ((repeat ((conv => whnf); refine ⟨rfl, ?_⟩)); trivial)
        · exact ⟨rfl, rfl, rfl, rfl, trivial⟩
    · ((repeat ((conv => whnf); first | refine brT ?_ | refine brF ?_)); conv => whnf)
      refine ⟨_, p1, ?_⟩
      ((repeat ((conv => whnf); first | refine brT ?_ | refine brF ?_)); conv => whnf)
      refine ⟨_, p2, ?_⟩
      ((repeat ((conv => whnf); first | refine brT ?_ | refine brF ?_)); conv => whnf)
      rw [hw]
      ((repeat ((conv => whnf); first | refine brT ?_ | refine brF ?_)); conv => whnf)
      refine ⟨_, hl, ?_⟩
      ((repeat ((conv => whnf); first | refine brT ?_ | refine brF ?_)); conv => whnf)
      refine weak_idD ?_ ?_ rfl
      · ((repeat ((conv => whnf); refine ⟨rfl, ?_⟩)); trivial)
      · exact ⟨rfl, rfl, rfl, rfl, trivial⟩
  ((repeat ((conv => whnf); first | refine brT ?_ | refine brF ?_)); conv => whnf)
  (refine ⟨fun g => ?_, fun g => ?_⟩ <;> rw [g])
  · have hle : leI (s.1 : Int) 1073741824 = false := by rw [ltI_t] at g; rw [leI_f]; exact g
    rw [hle]
    ((repeat ((conv => whnf); first | refine brT ?_ | refine brF ?_)); conv => whnf)
    (refine ⟨_, rfl, rfl, ?_⟩; unfold dyLV; repeat (first | exact List.nodup_nil | refine ⟨rfl, ?_⟩))
  · have hle : leI (s.1 : Int) 1073741824 = true := by rw [ltI_f] at g; rw [leI_t]; exact g
    rw [hle]
    ((repeat ((conv => whnf); first | refine brT ?_ | refine brF ?_)); conv => whnf)
    (refine ⟨_, rfl, rfl, ?_⟩; unfold dyLV; repeat (first | exact List.nodup_nil | refine ⟨rfl, ?_⟩))
theorem toDyad_spec (x : Int × Int) : FSpec env.P 16 [idLV x] (idLV x) := by
  refine FSpec_of_code env_ok (fn := Tryd.f16) Tryd.func16 rfl Tryd.call16 _ _ ?_
  obtain ⟨a, b⟩ := x
  ((repeat ((conv => whnf); first | refine brT ?_ | refine brF ?_)); conv => whnf)
  (refine ⟨_, rfl, rfl, ?_⟩; unfold idLV; repeat (first | exact List.nodup_nil | refine ⟨rfl, ?_⟩))
theorem law_addDyads (x y : Int × Int) : FSpec env.P 4 [idLV x, idLV y] (.bool true) := by
  refine FSpec_of_code env_ok (fn := Tryd.f4) Tryd.func4 rfl Tryd.call4 _ _ ?_
  have hI := addD_impl x y
  have hS := addD_spec x y
  have hT := toDyad_spec x
  have hU := toDyad_spec y
  have hE : ∀ d : Nat × Nat, eqDy ((d.1 : Int), (d.2 : Int)) ((d.1 : Int), (d.2 : Int)) = true := fun d => by unfold eqDy; rw [show eqI (d.1 : Int) (d.1 : Int) = true from eqI_t.2 rfl, show eqI (d.2 : Int) (d.2 : Int) = true from eqI_t.2 rfl]; rfl
  generalize adD x y = d at hI hS
  generalize adB x y = b at hI hS
  have hq : FSpec env.P 14 [dyLV d, dyLV d] (.bool true) := by have := eqDyad_spec ((d.1 : Int), (d.2 : Int)) ((d.1 : Int), (d.2 : Int)); rw [hE] at this; exact this
  obtain ⟨a, b'⟩ := x
  obtain ⟨c, d'⟩ := y
  ((repeat ((conv => whnf); first | refine brT ?_ | refine brF ?_)); conv => whnf)
  refine ⟨false, 0, 0, 0, [0, 2], (.alt 1 (.alt 3 (.alt 4 (.alt 5 (.alt 6 (.alt 7 (.one 8 (.one 9 (.one 10 .done))) (.one 8 (.alt 7 (.one 9 (.one 10 .done)) (.one 9 (.one 7 (.one 10 .done)))))) (.alt 7 (.alt 6 (.one 8 (.one 9 (.one 10 .done))) (.one 8 (.one 6 (.one 9 (.one 10 .done))))) (.one 8 (.alt 6 (.alt 7 (.one 9 (.one 10 .done)) (.one 9 (.one 7 (.one 10 .done)))) (.one 7 (.one 6 (.one 9 (.one 10 .done)))))))) (.one 8 (.one 5 (.alt 6 (.alt 7 (.one 9 (.one 10 .done)) (.one 9 (.one 7 (.one 10 .done)))) (.one 7 (.one 6 (.one 9 (.one 10 .done)))))))) (.one 8 (.one 4 (.one 5 (.alt 6 (.alt 7 (.one 9 (.one 10 .done)) (.one 9 (.one 7 (.one 10 .done)))) (.one 7 (.one 6 (.one 9 (.one 10 .done))))))))) (.one 8 (.one 3 (.one 4 (.one 5 (.alt 6 (.alt 7 (.one 9 (.one 10 .done)) (.one 9 (.one 7 (.one 10 .done)))) (.one 7 (.one 6 (.one 9 (.one 10 .done)))))))))) (.one 8 (.one 1 (.one 3 (.one 4 (.one 5 (.alt 6 (.alt 7 (.one 9 (.one 10 .done)) (.one 9 (.one 7 (.one 10 .done)))) (.one 7 (.one 6 (.one 9 (.one 10 .done))))))))))), by kernel_rfl, ?_⟩
  ((repeat ((conv => whnf); first | refine brT ?_ | refine brF ?_)); conv => whnf)
  apply Exists.intro; apply Exists.intro
  refine And.intro ?_ ?_
  · ((repeat ((conv => whnf); first | refine brT ?_ | refine brF ?_)); conv => whnf)
    refine And.intro ?_ ?_
    · ((repeat ((conv => whnf); first | refine brT ?_ | refine brF ?_)); conv => whnf)
      refine ⟨_, hT, ?_⟩
      ((repeat ((conv => whnf); first | refine brT ?_ | refine brF ?_)); conv => whnf)
      refine And.intro ?_ ?_
      · ((repeat ((conv => whnf); first | refine brT ?_ | refine brF ?_)); conv => whnf)
        refine ⟨_, hU, ?_⟩
        ((repeat ((conv => whnf); first | refine brT ?_ | refine brF ?_)); conv => whnf)
        refine And.intro ?_ ?_
        · ((repeat ((conv => whnf); first | refine brT ?_ | refine brF ?_)); conv => whnf)
          refine ⟨_, hS, ?_⟩
          ((repeat ((conv => whnf); first | refine brT ?_ | refine brF ?_)); conv => whnf)
          refine And.intro ?_ ?_
          · ((repeat ((conv => whnf); first | refine brT ?_ | refine brF ?_)); conv => whnf)
            refine And.intro ?_ ?_
            · ((repeat ((conv => whnf); first | refine brT ?_ | refine brF ?_)); conv => whnf)
              refine And.intro ?_ ?_
              · ((repeat ((conv => whnf); first | refine brT ?_ | refine brF ?_)); conv => whnf)
                refine weak_idD ?_ ?_ rfl
                · ((repeat ((conv => whnf); refine ⟨rfl, ?_⟩)); trivial)
                · exact ⟨rfl, rfl, rfl, trivial⟩
              · ((repeat ((conv => whnf); first | refine brT ?_ | refine brF ?_)); conv => whnf)
                refine And.intro ?_ ?_
                · ((repeat ((conv => whnf); first | refine brT ?_ | refine brF ?_)); conv => whnf)
                  refine weak_idD ?_ ?_ rfl
                  · ((repeat ((conv => whnf); refine ⟨rfl, ?_⟩)); trivial)
                  · exact ⟨rfl, rfl, rfl, trivial⟩
                · ((repeat ((conv => whnf); first | refine brT ?_ | refine brF ?_)); conv => whnf)
                  refine weak_idD ?_ ?_ rfl
                  · ((repeat ((conv => whnf); refine ⟨rfl, ?_⟩)); trivial)
                  · exact ⟨rfl, rfl, rfl, trivial⟩
            · ((repeat ((conv => whnf); first | refine brT ?_ | refine brF ?_)); conv => whnf)
              refine And.intro ?_ ?_
              · ((repeat ((conv => whnf); first | refine brT ?_ | refine brF ?_)); conv => whnf)
                refine And.intro ?_ ?_
                · ((repeat ((conv => whnf); first | refine brT ?_ | refine brF ?_)); conv => whnf)
                  refine weak_idD ?_ ?_ rfl
                  · ((repeat ((conv => whnf); refine ⟨rfl, ?_⟩)); trivial)
                  · exact ⟨rfl, rfl, rfl, trivial⟩
                · ((repeat ((conv => whnf); first | refine brT ?_ | refine brF ?_)); conv => whnf)
                  refine weak_idD ?_ ?_ rfl
                  · ((repeat ((conv => whnf); refine ⟨rfl, ?_⟩)); trivial)
                  · exact ⟨rfl, rfl, rfl, trivial⟩
              · ((repeat ((conv => whnf); first | refine brT ?_ | refine brF ?_)); conv => whnf)
                refine And.intro ?_ ?_
                · ((repeat ((conv => whnf); first | refine brT ?_ | refine brF ?_)); conv => whnf)
                  refine And.intro ?_ ?_
                  · ((repeat ((conv => whnf); first | refine brT ?_ | refine brF ?_)); conv => whnf)
                    refine weak_idD ?_ ?_ rfl
                    · ((repeat ((conv => whnf); refine ⟨rfl, ?_⟩)); trivial)
                    · exact ⟨rfl, rfl, rfl, trivial⟩
                  · ((repeat ((conv => whnf); first | refine brT ?_ | refine brF ?_)); conv => whnf)
                    refine weak_idD ?_ ?_ rfl
                    · ((repeat ((conv => whnf); refine ⟨rfl, ?_⟩)); trivial)
                    · exact ⟨rfl, rfl, rfl, trivial⟩
                · ((repeat ((conv => whnf); first | refine brT ?_ | refine brF ?_)); conv => whnf)
                  refine weak_idD ?_ ?_ rfl
                  · ((repeat ((conv => whnf); refine ⟨rfl, ?_⟩)); trivial)
                  · exact ⟨rfl, rfl, rfl, trivial⟩
          · ((repeat ((conv => whnf); first | refine brT ?_ | refine brF ?_)); conv => whnf)
            refine And.intro ?_ ?_
            · ((repeat ((conv => whnf); first | refine brT ?_ | refine brF ?_)); conv => whnf)
              refine And.intro ?_ ?_
              · ((repeat ((conv => whnf); first | refine brT ?_ | refine brF ?_)); conv => whnf)
                refine weak_idD ?_ ?_ rfl
                · ((repeat ((conv => whnf); refine ⟨rfl, ?_⟩)); trivial)
                · exact ⟨rfl, rfl, rfl, trivial⟩
              · ((repeat ((conv => whnf); first | refine brT ?_ | refine brF ?_)); conv => whnf)
                refine weak_idD ?_ ?_ rfl
                · ((repeat ((conv => whnf); refine ⟨rfl, ?_⟩)); trivial)
                · exact ⟨rfl, rfl, rfl, trivial⟩
            · ((repeat ((conv => whnf); first | refine brT ?_ | refine brF ?_)); conv => whnf)
              refine weak_idD ?_ ?_ rfl
              · ((repeat ((conv => whnf); refine ⟨rfl, ?_⟩)); trivial)
              · exact ⟨rfl, rfl, rfl, trivial⟩
        · ((repeat ((conv => whnf); first | refine brT ?_ | refine brF ?_)); conv => whnf)
          refine ⟨_, hS, ?_⟩
          ((repeat ((conv => whnf); first | refine brT ?_ | refine brF ?_)); conv => whnf)
          refine And.intro ?_ ?_
          · ((repeat ((conv => whnf); first | refine brT ?_ | refine brF ?_)); conv => whnf)
            refine And.intro ?_ ?_
            · ((repeat ((conv => whnf); first | refine brT ?_ | refine brF ?_)); conv => whnf)
              refine weak_idD ?_ ?_ rfl
              · ((repeat ((conv => whnf); refine ⟨rfl, ?_⟩)); trivial)
              · exact ⟨rfl, rfl, rfl, trivial⟩
            · ((repeat ((conv => whnf); first | refine brT ?_ | refine brF ?_)); conv => whnf)
              refine weak_idD ?_ ?_ rfl
              · ((repeat ((conv => whnf); refine ⟨rfl, ?_⟩)); trivial)
              · exact ⟨rfl, rfl, rfl, trivial⟩
          · ((repeat ((conv => whnf); first | refine brT ?_ | refine brF ?_)); conv => whnf)
            refine weak_idD ?_ ?_ rfl
            · ((repeat ((conv => whnf); refine ⟨rfl, ?_⟩)); trivial)
            · exact ⟨rfl, rfl, rfl, trivial⟩
      · ((repeat ((conv => whnf); first | refine brT ?_ | refine brF ?_)); conv => whnf)
        refine ⟨_, hU, ?_⟩
        ((repeat ((conv => whnf); first | refine brT ?_ | refine brF ?_)); conv => whnf)
        refine ⟨_, hS, ?_⟩
        ((repeat ((conv => whnf); first | refine brT ?_ | refine brF ?_)); conv => whnf)
        refine And.intro ?_ ?_
        · ((repeat ((conv => whnf); first | refine brT ?_ | refine brF ?_)); conv => whnf)
          refine And.intro ?_ ?_
          · ((repeat ((conv => whnf); first | refine brT ?_ | refine brF ?_)); conv => whnf)
            refine weak_idD ?_ ?_ rfl
            · ((repeat ((conv => whnf); refine ⟨rfl, ?_⟩)); trivial)
            · exact ⟨rfl, rfl, rfl, trivial⟩
          · ((repeat ((conv => whnf); first | refine brT ?_ | refine brF ?_)); conv => whnf)
            refine weak_idD ?_ ?_ rfl
            · ((repeat ((conv => whnf); refine ⟨rfl, ?_⟩)); trivial)
            · exact ⟨rfl, rfl, rfl, trivial⟩
        · ((repeat ((conv => whnf); first | refine brT ?_ | refine brF ?_)); conv => whnf)
          refine weak_idD ?_ ?_ rfl
          · ((repeat ((conv => whnf); refine ⟨rfl, ?_⟩)); trivial)
          · exact ⟨rfl, rfl, rfl, trivial⟩
    · ((repeat ((conv => whnf); first | refine brT ?_ | refine brF ?_)); conv => whnf)
      refine ⟨_, hT, ?_⟩
      ((repeat ((conv => whnf); first | refine brT ?_ | refine brF ?_)); conv => whnf)
      refine ⟨_, hU, ?_⟩
      ((repeat ((conv => whnf); first | refine brT ?_ | refine brF ?_)); conv => whnf)
      refine ⟨_, hS, ?_⟩
      ((repeat ((conv => whnf); first | refine brT ?_ | refine brF ?_)); conv => whnf)
      refine And.intro ?_ ?_
      · ((repeat ((conv => whnf); first | refine brT ?_ | refine brF ?_)); conv => whnf)
        refine And.intro ?_ ?_
        · ((repeat ((conv => whnf); first | refine brT ?_ | refine brF ?_)); conv => whnf)
          refine weak_idD ?_ ?_ rfl
          · ((repeat ((conv => whnf); refine ⟨rfl, ?_⟩)); trivial)
          · exact ⟨rfl, rfl, rfl, trivial⟩
        · ((repeat ((conv => whnf); first | refine brT ?_ | refine brF ?_)); conv => whnf)
          refine weak_idD ?_ ?_ rfl
          · ((repeat ((conv => whnf); refine ⟨rfl, ?_⟩)); trivial)
          · exact ⟨rfl, rfl, rfl, trivial⟩
      · ((repeat ((conv => whnf); first | refine brT ?_ | refine brF ?_)); conv => whnf)
        refine weak_idD ?_ ?_ rfl
        · ((repeat ((conv => whnf); refine ⟨rfl, ?_⟩)); trivial)
        · exact ⟨rfl, rfl, rfl, trivial⟩
  ((repeat ((conv => whnf); first | refine brT ?_ | refine brF ?_)); conv => whnf)
  refine ⟨false, 0, 0, 0, [0, 2], (.alt 1 (.alt 3 (.alt 4 (.alt 5 (.alt 6 (.alt 7 (.one 8 (.one 9 (.one 10 .done))) (.one 8 (.alt 7 (.one 9 (.one 10 .done)) (.one 9 (.one 7 (.one 10 .done)))))) (.alt 7 (.alt 6 (.one 8 (.one 9 (.one 10 .done))) (.one 8 (.one 6 (.one 9 (.one 10 .done))))) (.one 8 (.alt 6 (.alt 7 (.one 9 (.one 10 .done)) (.one 9 (.one 7 (.one 10 .done)))) (.one 7 (.one 6 (.one 9 (.one 10 .done)))))))) (.one 8 (.one 5 (.alt 6 (.alt 7 (.one 9 (.one 10 .done)) (.one 9 (.one 7 (.one 10 .done)))) (.one 7 (.one 6 (.one 9 (.one 10 .done)))))))) (.one 8 (.one 4 (.one 5 (.alt 6 (.alt 7 (.one 9 (.one 10 .done)) (.one 9 (.one 7 (.one 10 .done)))) (.one 7 (.one 6 (.one 9 (.one 10 .done))))))))) (.one 8 (.one 3 (.one 4 (.one 5 (.alt 6 (.alt 7 (.one 9 (.one 10 .done)) (.one 9 (.one 7 (.one 10 .done)))) (.one 7 (.one 6 (.one 9 (.one 10 .done)))))))))) (.one 8 (.one 1 (.one 3 (.one 4 (.one 5 (.alt 6 (.alt 7 (.one 9 (.one 10 .done)) (.one 9 (.one 7 (.one 10 .done)))) (.one 7 (.one 6 (.one 9 (.one 10 .done))))))))))), by kernel_rfl, ?_⟩
  ((repeat ((conv => whnf); first | refine brT ?_ | refine brF ?_)); conv => whnf)
  apply Exists.intro; apply Exists.intro
  refine And.intro ?_ ?_
  · ((repeat ((conv => whnf); first | refine brT ?_ | refine brF ?_)); conv => whnf)
    refine And.intro ?_ ?_
    · ((repeat ((conv => whnf); first | refine brT ?_ | refine brF ?_)); conv => whnf)
      refine ⟨_, hT, ?_⟩
      ((repeat ((conv => whnf); first | refine brT ?_ | refine brF ?_)); conv => whnf)
      refine And.intro ?_ ?_
      · ((repeat ((conv => whnf); first | refine brT ?_ | refine brF ?_)); conv => whnf)
        refine ⟨_, hU, ?_⟩
        ((repeat ((conv => whnf); first | refine brT ?_ | refine brF ?_)); conv => whnf)
        refine And.intro ?_ ?_
        · ((repeat ((conv => whnf); first | refine brT ?_ | refine brF ?_)); conv => whnf)
          refine ⟨_, hI, ?_⟩
          ((repeat ((conv => whnf); first | refine brT ?_ | refine brF ?_)); conv => whnf)
          refine And.intro ?_ ?_
          · ((repeat ((conv => whnf); first | refine brT ?_ | refine brF ?_)); conv => whnf)
            refine And.intro ?_ ?_
            · ((repeat ((conv => whnf); first | refine brT ?_ | refine brF ?_)); conv => whnf)
              refine And.intro ?_ ?_
              · ((repeat ((conv => whnf); first | refine brT ?_ | refine brF ?_)); conv => whnf)
                refine weak_idD ?_ ?_ rfl
                · ((repeat ((conv => whnf); refine ⟨rfl, ?_⟩)); trivial)
                · exact ⟨rfl, rfl, rfl, rfl, trivial⟩
              · ((repeat ((conv => whnf); first | refine brT ?_ | refine brF ?_)); conv => whnf)
                refine And.intro ?_ ?_
                · ((repeat ((conv => whnf); first | refine brT ?_ | refine brF ?_)); conv => whnf)
                  refine weak_idD ?_ ?_ rfl
                  · ((repeat ((conv => whnf); refine ⟨rfl, ?_⟩)); trivial)
                  · exact ⟨rfl, rfl, rfl, rfl, trivial⟩
                · ((repeat ((conv => whnf); first | refine brT ?_ | refine brF ?_)); conv => whnf)
                  refine weak_idD ?_ ?_ rfl
                  · ((repeat ((conv => whnf); refine ⟨rfl, ?_⟩)); trivial)
                  · exact ⟨rfl, rfl, rfl, rfl, trivial⟩
            · ((repeat ((conv => whnf); first | refine brT ?_ | refine brF ?_)); conv => whnf)
              refine And.intro ?_ ?_
              · ((repeat ((conv => whnf); first | refine brT ?_ | refine brF ?_)); conv => whnf)
                refine And.intro ?_ ?_
                · ((repeat ((conv => whnf); first | refine brT ?_ | refine brF ?_)); conv => whnf)
                  refine weak_idD ?_ ?_ rfl
                  · ((repeat ((conv => whnf); refine ⟨rfl, ?_⟩)); trivial)
                  · exact ⟨rfl, rfl, rfl, rfl, trivial⟩
                · ((repeat ((conv => whnf); first | refine brT ?_ | refine brF ?_)); conv => whnf)
                  refine weak_idD ?_ ?_ rfl
                  · ((repeat ((conv => whnf); refine ⟨rfl, ?_⟩)); trivial)
                  · exact ⟨rfl, rfl, rfl, rfl, trivial⟩
              · ((repeat ((conv => whnf); first | refine brT ?_ | refine brF ?_)); conv => whnf)
                refine And.intro ?_ ?_
                · ((repeat ((conv => whnf); first | refine brT ?_ | refine brF ?_)); conv => whnf)
                  refine And.intro ?_ ?_
                  · ((repeat ((conv => whnf); first | refine brT ?_ | refine brF ?_)); conv => whnf)
                    refine weak_idD ?_ ?_ rfl
                    · ((repeat ((conv => whnf); refine ⟨rfl, ?_⟩)); trivial)
                    · exact ⟨rfl, rfl, rfl, rfl, trivial⟩
                  · ((repeat ((conv => whnf); first | refine brT ?_ | refine brF ?_)); conv => whnf)
                    refine weak_idD ?_ ?_ rfl
                    · ((repeat ((conv => whnf); refine ⟨rfl, ?_⟩)); trivial)
                    · exact ⟨rfl, rfl, rfl, rfl, trivial⟩
                · ((repeat ((conv => whnf); first | refine brT ?_ | refine brF ?_)); conv => whnf)
                  refine weak_idD ?_ ?_ rfl
                  · ((repeat ((conv => whnf); refine ⟨rfl, ?_⟩)); trivial)
                  · exact ⟨rfl, rfl, rfl, rfl, trivial⟩
          · ((repeat ((conv => whnf); first | refine brT ?_ | refine brF ?_)); conv => whnf)
            refine And.intro ?_ ?_
            · ((repeat ((conv => whnf); first | refine brT ?_ | refine brF ?_)); conv => whnf)
              refine And.intro ?_ ?_
              · ((repeat ((conv => whnf); first | refine brT ?_ | refine brF ?_)); conv => whnf)
                refine weak_idD ?_ ?_ rfl
                · ((repeat ((conv => whnf); refine ⟨rfl, ?_⟩)); trivial)
                · exact ⟨rfl, rfl, rfl, rfl, trivial⟩
              · ((repeat ((conv => whnf); first | refine brT ?_ | refine brF ?_)); conv => whnf)
                refine weak_idD ?_ ?_ rfl
                · ((repeat ((conv => whnf); refine ⟨rfl, ?_⟩)); trivial)
                · exact ⟨rfl, rfl, rfl, rfl, trivial⟩
            · ((repeat ((conv => whnf); first | refine brT ?_ | refine brF ?_)); conv => whnf)
              refine weak_idD ?_ ?_ rfl
              · ((repeat ((conv => whnf); refine ⟨rfl, ?_⟩)); trivial)
              · exact ⟨rfl, rfl, rfl, rfl, trivial⟩
        · ((repeat ((conv => whnf); first | refine brT ?_ | refine brF ?_)); conv => whnf)
          refine ⟨_, hI, ?_⟩
          ((repeat ((conv => whnf); first | refine brT ?_ | refine brF ?_)); conv => whnf)
          refine And.intro ?_ ?_
          · ((repeat ((conv => whnf); first | refine brT ?_ | refine brF ?_)); conv => whnf)
            refine And.intro ?_ ?_
            · ((repeat ((conv => whnf); first | refine brT ?_ | refine brF ?_)); conv => whnf)
              refine weak_idD ?_ ?_ rfl
              · ((repeat ((conv => whnf); refine ⟨rfl, ?_⟩)); trivial)
              · exact ⟨rfl, rfl, rfl, rfl, trivial⟩
            · ((repeat ((conv => whnf); first | refine brT ?_ | refine brF ?_)); conv => whnf)
              refine weak_idD ?_ ?_ rfl
              · ((repeat ((conv => whnf); refine ⟨rfl, ?_⟩)); trivial)
              · exact ⟨rfl, rfl, rfl, rfl, trivial⟩
          · ((repeat ((conv => whnf); first | refine brT ?_ | refine brF ?_)); conv => whnf)
            refine weak_idD ?_ ?_ rfl
            · ((repeat ((conv => whnf); refine ⟨rfl, ?_⟩)); trivial)
            · exact ⟨rfl, rfl, rfl, rfl, trivial⟩
      · ((repeat ((conv => whnf); first | refine brT ?_ | refine brF ?_)); conv => whnf)
        refine ⟨_, hU, ?_⟩
        ((repeat ((conv => whnf); first | refine brT ?_ | refine brF ?_)); conv => whnf)
        refine ⟨_, hI, ?_⟩
        ((repeat ((conv => whnf); first | refine brT ?_ | refine brF ?_)); conv => whnf)
        refine And.intro ?_ ?_
        · ((repeat ((conv => whnf); first | refine brT ?_ | refine brF ?_)); conv => whnf)
          refine And.intro ?_ ?_
          · ((repeat ((conv => whnf); first | refine brT ?_ | refine brF ?_)); conv => whnf)
            refine weak_idD ?_ ?_ rfl
            · ((repeat ((conv => whnf); refine ⟨rfl, ?_⟩)); trivial)
            · exact ⟨rfl, rfl, rfl, rfl, trivial⟩
          · ((repeat ((conv => whnf); first | refine brT ?_ | refine brF ?_)); conv => whnf)
            refine weak_idD ?_ ?_ rfl
            · ((repeat ((conv => whnf); refine ⟨rfl, ?_⟩)); trivial)
            · exact ⟨rfl, rfl, rfl, rfl, trivial⟩
        · ((repeat ((conv => whnf); first | refine brT ?_ | refine brF ?_)); conv => whnf)
          refine weak_idD ?_ ?_ rfl
          · ((repeat ((conv => whnf); refine ⟨rfl, ?_⟩)); trivial)
          · exact ⟨rfl, rfl, rfl, rfl, trivial⟩
    · ((repeat ((conv => whnf); first | refine brT ?_ | refine brF ?_)); conv => whnf)
      refine ⟨_, hT, ?_⟩
      ((repeat ((conv => whnf); first | refine brT ?_ | refine brF ?_)); conv => whnf)
      refine ⟨_, hU, ?_⟩
      ((repeat ((conv => whnf); first | refine brT ?_ | refine brF ?_)); conv => whnf)
      refine ⟨_, hI, ?_⟩
      ((repeat ((conv => whnf); first | refine brT ?_ | refine brF ?_)); conv => whnf)
      refine And.intro ?_ ?_
      · ((repeat ((conv => whnf); first | refine brT ?_ | refine brF ?_)); conv => whnf)
        refine And.intro ?_ ?_
        · ((repeat ((conv => whnf); first | refine brT ?_ | refine brF ?_)); conv => whnf)
          refine weak_idD ?_ ?_ rfl
          · ((repeat ((conv => whnf); refine ⟨rfl, ?_⟩)); trivial)
          · exact ⟨rfl, rfl, rfl, rfl, trivial⟩
        · ((repeat ((conv => whnf); first | refine brT ?_ | refine brF ?_)); conv => whnf)
          refine weak_idD ?_ ?_ rfl
          · ((repeat ((conv => whnf); refine ⟨rfl, ?_⟩)); trivial)
          · exact ⟨rfl, rfl, rfl, rfl, trivial⟩
      · ((repeat ((conv => whnf); first | refine brT ?_ | refine brF ?_)); conv => whnf)
        refine weak_idD ?_ ?_ rfl
        · ((repeat ((conv => whnf); refine ⟨rfl, ?_⟩)); trivial)
        · exact ⟨rfl, rfl, rfl, rfl, trivial⟩
  ((repeat ((conv => whnf); first | refine brT ?_ | refine brF ?_)); conv => whnf)
  ((repeat' (((repeat ((conv => whnf); first | refine brT ?_ | refine brF ?_)); conv => whnf); first | (refine And.intro ?_ ?_ <;> (intro h; rw [h]; revert h; intro _)) | (refine Exists.intro true (And.intro (a := drawB _ _ = true) (by kernel_rfl) ?_)) | (refine Exists.intro _ (And.intro (hq) ?_)))); all_goals ((repeat ((conv => whnf); first | refine brT ?_ | refine brF ?_)); conv => whnf))
  all_goals (refine fin ?_; simp_all [notB, eqB])
abbrev shDy : Sh := .st [.int .i64, .int .i64]
theorem dy_of_sh {x : LV} (h : hasSh shDy x) : ∃ p : Int × Int, x = idLV p ∧ True := by
  simp only [hasSh] at h
  obtain ⟨xs, rfl, h⟩ := h
  match xs, h with
  | [a, b], h =>
    simp only [hasShs, hasSh] at h
    obtain ⟨⟨n, rfl⟩, ⟨m, rfl⟩, _⟩ := h
    exact ⟨(n, m), rfl, trivial⟩
  | [], h => simp [hasShs] at h
  | [_], h => simp [hasShs] at h
  | _ :: _ :: _ :: _, h => simp [hasShs] at h
end Go.Proofs.YtplkockghigpdaaDoor


namespace Go.Proofs.YtplkockghigpdaaDoor
namespace Seat
open Go.RowKit
abbrev laid2 : List (String × DataW Unit) := Rows.fnExactDyadOfRow.laid
set_option maxRecDepth 100000 in
theorem door_met (os : Os) (args : Array Value) : laidMetH Tryd.prog laid2 ((World.doorLaid Tryd.prog 400 os).forCall (fun _ _ => 0) ⟨#[], args, []⟩).memory :=
  laidMetH_of_parts3 (fuel := 8) (laidMet_of_run' 8 (by kernel_rfl) (by kernel_rfl)) (by kernel_rfl) (by kernel_rfl)
set_option maxRecDepth 100000 in
theorem door_shaped (os : Os) (args : Array Value) : ((World.doorLaid Tryd.prog 400 os).forCall (fun _ _ => 0) ⟨#[], args, []⟩).Shaped Tryd.prog := World.shaped_of_RefB (by kernel_rfl) (by kernel_rfl)
end Seat
end Go.Proofs.YtplkockghigpdaaDoor

