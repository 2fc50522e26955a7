/- The types of this seat's program, as the logic of values has them. -/
import Derived.Test.YtplkockghigpdaaDoorRows
import Derived.Test.YtplkockghigpdaaDoorFLgN
import Derived.KernelRfl
import Derived.Lib.LaidTab
import Derived.Lib.TrailingZeros
import Derived.LaidMore
import Derived.Stop.LaidErr
import Derived.MakeChecks
import Derived.Lib.ItoaNum
import Derived.WalkSmall
import Derived.Shelf.Spec.TrailingZeros
import Derived.WalkKit
import Derived.Shelf.LaysM
import Derived.Shelf.Strconv.Itoa0
import Derived.Shelf.Strconv.Itoa1
import Derived.Shelf.Strconv.Itoa2
import Derived.Shelf.Strconv.Itoa3
import Derived.Test.YtplkockghigpdaaDoorFLgWS
import Derived.Test.YtplkockghigpdaaDoorFSeat
import Derived.Test.YtplkockghigpdaaDoorTie
import Derived.OpenShut
import Derived.Stop.Joined
namespace Go.Proofs.YtplkockghigpdaaDoor
open Go.Lg
def tyL : List (Nat × TyI) :=
  [(2, ⟨.int .i64, 1, 8⟩),
   (3, ⟨.int .i64, 1, 8⟩),
   (4, ⟨.bool, 1, 1⟩),
   (5, ⟨.int .u8, 1, 1⟩),
   (9, ⟨.str, 1, 16⟩),
   (21, ⟨.int .i32, 1, 4⟩),
   (23, ⟨.struct [3, 3] [0, 1], 2, 16⟩),
   (28, ⟨.struct [3, 3] [0, 1], 2, 16⟩),
   (34, ⟨.slice 95, 1, 24⟩),
   (35, ⟨.slice 101, 1, 24⟩),
   (37, ⟨.struct [34, 35] [0, 1], 2, 48⟩),
   (40, ⟨.slice 82, 1, 24⟩),
   (41, ⟨.slice 99, 1, 24⟩),
   (43, ⟨.struct [40, 41] [0, 1], 2, 48⟩),
   (50, ⟨.slice 5, 1, 24⟩),
   (51, ⟨.slice 23, 1, 24⟩),
   (56, ⟨.slice 3, 1, 24⟩),
   (69, ⟨.slice 51, 1, 24⟩),
   (74, ⟨.slice 56, 1, 24⟩),
   (75, ⟨.slice 56, 1, 24⟩),
   (82, ⟨.struct [9, 3, 3, 3, 3, 3] [0, 1, 2, 3, 4, 5], 6, 56⟩),
   (86, ⟨.slice 56, 1, 24⟩),
   (93, ⟨.int .u64, 1, 8⟩),
   (95, ⟨.struct [9, 3, 3, 3, 3, 3] [0, 1, 2, 3, 4, 5], 6, 56⟩),
   (99, ⟨.struct [3, 3, 3, 3] [0, 1, 2, 3], 4, 32⟩),
   (101, ⟨.struct [3, 3, 3, 3] [0, 1, 2, 3], 4, 32⟩),
   (104, ⟨.other, 1, 8⟩),
   (111, ⟨.other, 1, 8⟩),
   (112, ⟨.int .u64, 1, 8⟩),
   (113, ⟨.int .u64, 1, 8⟩),
   (120, ⟨.int .u32, 1, 4⟩),
   (136, ⟨.struct [50, 3, 3] [0, 1, 2], 3, 40⟩),
   (163, ⟨.other, 1, 8⟩)]
def zL : List (Nat × LV) :=
  [(2, (.int .i64 0)),
   (3, (.int .i64 0)),
   (4, (.bool false)),
   (5, (.int .u8 0)),
   (9, (.str ⟨#[]⟩)),
   (21, (.int .i32 0)),
   (23, (.st [(.int .i64 0), (.int .i64 0)])),
   (28, (.st [(.int .i64 0), (.int .i64 0)])),
   (34, .nil),
   (35, .nil),
   (37, (.st [.nil, .nil])),
   (40, .nil),
   (41, .nil),
   (43, (.st [.nil, .nil])),
   (50, .nil),
   (51, .nil),
   (56, .nil),
   (69, .nil),
   (74, .nil),
   (75, .nil),
   (82, (.st [(.str ⟨#[]⟩), (.int .i64 0), (.int .i64 0), (.int .i64 0), (.int .i64 0), (.int .i64 0)])),
   (86, .nil),
   (93, (.int .u64 0)),
   (95, (.st [(.str ⟨#[]⟩), (.int .i64 0), (.int .i64 0), (.int .i64 0), (.int .i64 0), (.int .i64 0)])),
   (99, (.st [(.int .i64 0), (.int .i64 0), (.int .i64 0), (.int .i64 0)])),
   (101, (.st [(.int .i64 0), (.int .i64 0), (.int .i64 0), (.int .i64 0)])),
   (104, .undef),
   (111, .undef),
   (112, (.int .u64 0)),
   (113, (.int .u64 0)),
   (120, (.int .u32 0)),
   (136, (.st [.nil, (.int .i64 0), (.int .i64 0)])),
   (163, .undef)]
def cL : List (Nat × List (Nat × Nat)) :=
  [(23, [(3, 0), (3, 1)]),
   (28, [(3, 0), (3, 1)]),
   (82, [(9, 0), (3, 1), (3, 2), (3, 3), (3, 4), (3, 5)]),
   (95, [(9, 0), (3, 1), (3, 2), (3, 3), (3, 4), (3, 5)]),
   (99, [(3, 0), (3, 1), (3, 2), (3, 3)]),
   (101, [(3, 0), (3, 1), (3, 2), (3, 3)])]
def mL : MTab :=
  []
def bL : List (Nat × Nat) := []
def mpL : List (TypeId × MK × TypeId × TypeId) := []
noncomputable def env : Env := { P := Tryd.prog, T := lookT tyL, Z := lookT zL, C := lookT cL, M := mL, bd := bL, mp := mpL }
theorem tyL_ok : tyL.all (fun x => tyOKB Tryd.prog x.1 x.2) = true := by kernel_rfl
theorem zL_ok : zL.all (fun x => zOKB Tryd.prog x.1 x.2) = true := by kernel_rfl
theorem cL_ok : cL.all (fun x => cmpB Tryd.prog x.1 x.2) = true := by kernel_rfl
theorem mL_ok : mL.all (fun x => methB Tryd.prog x.1 x.2.1 x.2.2) = true := by kernel_rfl
theorem bL_ok : bL.all (fun x => bdOKB Tryd.prog x.1) = true := by kernel_rfl
theorem mpL_ok : mpL.all (mpB Tryd.prog) = true := by kernel_rfl
theorem laid_ok : laidOutB Tryd.prog = true := by kernel_rfl
/-- What a run may lean on of its world: nothing. -/
theorem g64 : Tryd.prog.globalNamed "math/bits.deBruijn64tab" = some 1 := by kernel_rfl
theorem g64Type : (Tryd.prog.globals[1]?).map (·.type) = some 138 := by kernel_rfl
theorem cells5' : Tryd.prog.cellsOf 5 = 1 := by kernel_rfl
theorem cells64 : Tryd.prog.cellsOf 138 = 64 := by kernel_rfl
/-- The table of math/bits, as it lies. -/
def TabLies (w : World) : Prop := ∀ j, j < 64 → w.cell? ⟨1, j, none⟩ = some (.int .u8 (Lib.deBruijn64tab.getD j 0 : Nat))
theorem g10 : Tryd.prog.globalNamed "internal/strconv.uint64pow10" = some 2 := by kernel_rfl
theorem g10Type : (Tryd.prog.globals[2]?).map (·.type) = some 160 := by kernel_rfl
theorem cellsU : Tryd.prog.cellsOf 112 = 1 := by kernel_rfl
theorem cells10 : Tryd.prog.cellsOf 160 = 20 := by kernel_rfl
def PowLies (w : World) : Prop := Lib.TabIs Tryd.prog w "internal/strconv.uint64pow10" .u64 Lib.pow10Tab
instance gi : GI := { low := 2 + 1, F := fun w => TabLies w ∧ PowLies w, keepF := fun h k t => ⟨fun j hj => by rw [cell_of_block (k.block 1 (by omega))]; exact t.1 j hj, Go.var?_below k.old g10 (by omega) t.2⟩ }
theorem pow_data : (Rows.laid_internal_strconv_uint64pow10 : DataW Unit) = Lib.tabData .u64 Lib.pow10Tab := by rfl
theorem tab_data : (Rows.laid_math_bits_deBruijn64tab : DataW Unit) = Lib.tabData .u8 (Lib.deBruijn64tab.map fun n : Nat => (n : Int)) := by rfl
theorem gi_of {W : World} (h : laidMetH Tryd.prog Rows.fnExactFormatDyadRow.laid W) : GI.I W.heap.size W := by
  rw [MakeChecks.laidMetH_plain _ _ _ (by kernel_rfl)] at h
  have h2 := laidMet.tail h
  have ht : Lib.TabIs Tryd.prog W "math/bits.deBruijn64tab" .u8 (Lib.deBruijn64tab.map fun n : Nat => (n : Int)) := by
    refine Lib.tabIs_of_head (rest := [("internal/strconv.uint64pow10", Rows.laid_internal_strconv_uint64pow10)]) g64 g64Type Tryd.underlying138 Tryd.underlying5 cells5' cells64 ?_
    rw [← tab_data]; exact h2
  have hc : TabLies W := fun j hj => by
    have := ht.cell g64 j (by simpa [Lib.deBruijn64tab] using hj)
    rw [this]
    simp [List.getD_eq_getElem?_getD, show j < Lib.deBruijn64tab.length from by simpa [Lib.deBruijn64tab] using hj]
  have h3 := laidMet.tail h2
  have hp : PowLies W := by
    refine Lib.tabIs_of_head (rest := []) g10 g10Type Tryd.underlying160 Tryd.underlying112 cellsU cells10 ?_
    rw [← pow_data]; exact h3
  refine ⟨?_, hc, hp⟩
  show 2 + 1 ≤ W.heap.size
  rcases Nat.lt_or_ge 2 W.heap.size with h | h
  · exact h
  · unfold PowLies Lib.TabIs World.var? at hp
    rw [g10] at hp
    simp only [Option.bind_some] at hp
    rw [Array.getElem?_eq_none h] at hp
    cases hp
theorem env_ok : EnvOK env := ⟨TabOK_of tyL_ok, ZOK_of zL_ok, by kernel_rfl, COK_of cL_ok, MOK_of mL_ok, BdOK_of bL_ok, MpOK_of mpL_ok laid_ok⟩
end Go.Proofs.YtplkockghigpdaaDoor


namespace Go.Proofs.YtplkockghigpdaaDoor
open Go.Lg
set_option maxHeartbeats 2000000
set_option maxRecDepth 100000
set_option linter.unusedVariables false
set_option linter.unusedSimpArgs false

/-! ### Trailing zeros -/
theorem tz64_core (x k idx : Nat) (w : World) (hx0 : ((x : Int) == 0) = false)
    (key : IntKind.u64.wrap (bits BinOp.and IntKind.u64 (x : Int) (IntKind.u64.wrap (-(x : Int))) * 285870213051353865) / 288230376151711744 = (idx : Int))
    (hi : idx < 64) (hk : k < 64) (hcell : w.cell? ⟨1, idx, none⟩ = some (.int .u8 k)) :
    Calls Tryd.prog 94 #[.int .u64 x] w fun e w' => e = .returned (.int .i64 k) ∧ w' = w := by
  go_enter Tryd.func94, Tryd.ntmps94
  go_wp2_with (simp only [key])
  go_ret
  exact ⟨rfl, rfl⟩
theorem tz64_zero (w : World) : Calls Tryd.prog 94 #[.int .u64 0] w fun e w' => e = .returned (.int .i64 64) ∧ w' = w := by
  go_enter Tryd.func94, Tryd.ntmps94
  go_wp2
  go_ret
  exact ⟨rfl, rfl⟩
theorem tz64 (x : Nat) (hx : x < 18446744073709551616) (w : World) (hT : TabLies w) : Calls Tryd.prog 94 #[.int .u64 x] w fun e w' => e = .returned (.int .i64 (Lib.ctz 64 x)) ∧ w' = w := by
  by_cases hx0 : x = 0
  · subst hx0
    exact tz64_zero w
  · obtain ⟨hlow, hk⟩ := Lib.lowest_bit 64 x hx0 hx
    obtain ⟨hi, htab⟩ := Lib.deBruijn64_at _ hk
    have hcell := hT _ hi
    rw [htab] at hcell
    exact tz64_core x _ _ w (by simp; omega) (tz64_key x _ hx hx0 hlow) hi hk hcell
theorem tz (x : Nat) (hx : x < 18446744073709551616) (w : World) (hT : TabLies w) : Calls Tryd.prog 69 #[.int .u64 x] w fun e w' => e = .returned (.int .i64 (Lib.ctz 64 x)) ∧ w' = w := by
  go_enter Tryd.func69, Tryd.ntmps69
  go_wp2_with (go_at_call 94; refine (tz64 x hx _ hT).mono ?_; rintro e w' ⟨rfl, rfl⟩)
  go_ret
  exact ⟨rfl, rfl⟩
theorem tz_spec (x : Nat) (hx : x < 18446744073709551616) : FSpec env.P 69 [.int .u64 (x : Int)] (.int .i64 (Lib.ctz 64 x : Nat)) := by
  unfold FSpec
  refine ⟨Tryd.call69, fun w O vs hI hO hsz hargs => ?_⟩
  obtain ⟨v0, rfl⟩ : ∃ v0, vs = #[v0] := by
    obtain ⟨vl⟩ := vs
    match vl, hsz with
    | [a], _ => exact ⟨a, rfl⟩
  have a0 := hargs 0 _ v0 rfl rfl
  simp only [RT, RT1, RC, List.cons.injEq, and_true] at a0
  subst a0
  refine (tz x hx w hI.2.1).mono ?_
  rintro e w' ⟨rfl, rfl⟩
  exact ⟨_, rfl, Below.refl _ _, [], List.nodup_nil, by simp [RR, RR1, RRc, RC]⟩
end Go.Proofs.YtplkockghigpdaaDoor


namespace Go.Proofs.YtplkockghigpdaaDoor
open Go.Lg
set_option maxHeartbeats 800000
set_option linter.unusedVariables false
set_option linter.unusedSimpArgs false

/-! ### Fractions in their lowest terms -/
def rdc : Nat → Nat → Nat × Nat
  | n, 0 => (n, 0)
  | n, e + 1 => if n % 2 = 0 then rdc (n / 2) e else (n, e + 1)
theorem rdc_even {n e : Nat} (h : n % 2 = 0) : rdc n (e + 1) = rdc (n / 2) e := by rw [rdc, if_pos h]
theorem rdc_odd' {n e : Nat} (h : n % 2 = 1) : rdc n e = (n, e) := by
  cases e with
  | zero => rfl
  | succ e => rw [rdc, if_neg (by omega)]
theorem rdc_low : ∀ (e n : Nat), (rdc n e).2 = 0 ∨ (rdc n e).1 % 2 = 1
  | 0, n => .inl rfl
  | e + 1, n => by
    rw [rdc]; split
    · exact rdc_low e _
    · exact .inr (by show n % 2 = 1; omega)
theorem rdc_fix {n e : Nat} : rdc n e = (n, e) ↔ e = 0 ∨ n % 2 = 1 := by
  constructor
  · intro h
    have := rdc_low e n
    rw [h] at this; exact this
  · rintro (rfl | h)
    · rfl
    · exact rdc_odd' h
theorem rdc_zero : ∀ e, rdc 0 e = (0, 0)
  | 0 => rfl
  | e + 1 => by rw [rdc, if_pos rfl]; exact rdc_zero e
/-- So many parts in lowest terms. -/
def rd (v : Nat) : Nat × Nat := rdc v 30
end Go.Proofs.YtplkockghigpdaaDoor


namespace Go.Proofs.YtplkockghigpdaaDoor
open Go.Lg
set_option maxHeartbeats 400000
set_option linter.unusedVariables false
set_option linter.unusedSimpArgs false

theorem l1In_spec (x a b : Int) : FSpec env.P 36 [.int .i64 x, .int .i64 a, .int .i64 b] (.bool (leI a x && leI x b)) := by
  refine FSpec_of_code env_ok (fn := Tryd.f36) Tryd.func36 rfl Tryd.call36 _ _ ?_
  conv => whnf
  refine ⟨fun h => ?_, fun h => ?_⟩ <;> rw [h] <;> conv => whnf
  · repeat (refine brT ?_; conv => whnf)
    exact fin rfl
  · repeat (refine brF ?_; conv => whnf)
    exact fin rfl

def low (c : UInt8) : Bool := !(ltI (c.toNat : Int) 97 || ltI 122 (c.toNat : Int))
def lowTo (s : ByteArray) (k : Nat) : Prop := ∀ j (h : j < s.size), j < k → low s[j] = true
def allLow (s : ByteArray) : Bool := s.data.toList.all low
theorem lowTo.succ {s : ByteArray} {k : Nat} (h : lowTo s k) (hk : k < s.size) (hl : low s[k] = true) : lowTo s (k + 1) := by
  intro j hj hjk
  by_cases e : j = k
  · subst e; exact hl
  · exact h j hj (by omega)
theorem lowTo.all {s : ByteArray} {k : Nat} (h : lowTo s k) (hk : s.size ≤ k) : allLow s = true := by
  unfold allLow
  rw [List.all_eq_true]
  intro c hc
  obtain ⟨j, hj, rfl⟩ := List.mem_iff_getElem.1 hc
  have hj' : j < s.size := by simpa using hj
  exact h j hj' (by omega)
end Go.Proofs.YtplkockghigpdaaDoor


namespace Go.Proofs.YtplkockghigpdaaDoor
open Go.Lg
set_option maxHeartbeats 3200000
set_option maxRecDepth 10000
set_option linter.unusedVariables false
set_option linter.unusedSimpArgs false

/-! ### Dyads: lowest terms on both sides -/
theorem rdc_ctz : ∀ (f n e : Nat), 0 < n → n < 2 ^ f → rdc n e = (n / 2 ^ min (Lib.ctzFrom f n) e, e - min (Lib.ctzFrom f n) e)
  | 0, n, e, h0, h => by simp at h; omega
  | f + 1, n, e, h0, h => by
    unfold Lib.ctzFrom
    split
    · rename_i h1
      rw [rdc_odd' h1]; simp
    · rename_i h1
      have ih := rdc_ctz f (n / 2)
      cases e with
      | zero => simp [rdc]
      | succ e =>
        rw [rdc_even (by omega), ih e (by omega) (by rw [Nat.pow_succ] at h; omega)]
        have em : min (1 + Lib.ctzFrom f (n / 2)) (e + 1) = min (Lib.ctzFrom f (n / 2)) e + 1 := by omega
        rw [em, Nat.pow_succ, Nat.div_div_eq_div_mul, Nat.mul_comm]
        congr 1; omega
theorem rdc_tz (n e : Nat) (h : n < 2 ^ 64) (he : e ≤ 64) : rdc n e = (n / 2 ^ min (Lib.ctz 64 n) e, e - min (Lib.ctz 64 n) e) := by
  unfold Lib.ctz
  by_cases h0 : n = 0
  · subst h0
    rw [if_pos rfl, rdc_zero, Nat.min_eq_right he]; simp
  · rw [if_neg h0]; exact rdc_ctz 64 n e (by omega) h
def dyLV (d : Nat × Nat) : LV := .st [.int .i64 (d.1 : Int), .int .i64 (d.2 : Int)]
theorem lowest_spec (n e : Nat) (hn : n < 9223372036854775808) (he : e ≤ 30) : FSpec env.P 38 [.int .i64 (n : Int), .int .i64 (e : Int)] (dyLV (rdc n e)) := by
  refine FSpec_of_code env_ok (fn := Tryd.f38) Tryd.func38 rfl Tryd.call38 _ _ ?_
  have hz := tz_spec n (by omega)
  have hr := rdc_tz n e (by omega) (by omega)
  have hm : minI (Lib.ctz 64 n : Int) (e : Int) = ((min (Lib.ctz 64 n) e : Nat) : Int) := by unfold minI; split <;> omega
  have wu : IntKind.u64.wrap (n : Int) = (n : Int) := IntWalk.u64_in n ⟨by omega, by omega⟩
  generalize Lib.ctz 64 n = c at hz hr hm
  have hmm : min c e ≤ 30 := by omega
  have hle : min c e ≤ e := Nat.min_le_right _ _
  generalize min c e = t at hr hm hmm hle
  have hs : shrI .i64 (n : Int) (t : Int) = ((n / 2 ^ t : Nat) : Int) := by
    unfold shrI
    rw [show min (Int.toNat (t : Int)) IntKind.i64.bits = t by rw [Int.toNat_natCast]; exact Nat.min_eq_left (by show t ≤ 64; omega)]
    rw [Int.fdiv_eq_ediv_of_nonneg _ (by exact Int.le_of_lt (Int.pow_pos (by omega)))]
    norm_cast
  have hw : IntKind.i64.wrap ((e : Int) - (t : Int)) = ((e - t : Nat) : Int) := by rw [wrap64 (by omega) (by omega)]; omega
  have hwc : IntKind.u64.wrap (n : Int) = (n : Int) := wu
  rw [hr]
  ((repeat ((conv => whnf); first | refine brT ?_ | refine brF ?_)); conv => whnf)
  rw [hwc]
  refine ⟨_, hz, ?_⟩
  ((repeat ((conv => whnf); first | refine brT ?_ | refine brF ?_)); conv => whnf)
  rw [hm]
  ((repeat ((conv => whnf); first | refine brT ?_ | refine brF ?_)); conv => whnf)
  refine ⟨by omega, ?_⟩
  ((repeat ((conv => whnf); first | refine brT ?_ | refine brF ?_)); conv => whnf)
  rw [hs, hw]
  ((repeat ((conv => whnf); first | refine brT ?_ | refine brF ?_)); conv => whnf)
  exact ⟨_, rfl, rfl, by simp [dyLV, exW, exsW]⟩
def dyOK (n e : Int) : Bool := (leI 0 n && leI n 1073741824) && (leI 0 e && leI e 30)
theorem dyOK_t {n e : Int} : dyOK n e = true ↔ (0 ≤ n ∧ n ≤ 1073741824) ∧ (0 ≤ e ∧ e ≤ 30) := by
  unfold dyOK; rw [Bool.and_eq_true_iff, Bool.and_eq_true_iff, Bool.and_eq_true_iff, leI_t, leI_t, leI_t, leI_t]
def dyD (n e : Int) : Nat × Nat := match dyOK n e with | true => rdc n.toNat e.toNat | false => (0, 0)
theorem dyD_no {n e : Int} (h : dyOK n e = false) : dyD n e = (0, 0) := by unfold dyD; rw [h]
theorem dyD_yes {n e : Int} (h : dyOK n e = true) : dyD n e = rdc n.toNat e.toNat := by unfold dyD; rw [h]
theorem dyOK_no {n e : Int} (h : ¬((0 ≤ n ∧ n ≤ 1073741824) ∧ (0 ≤ e ∧ e ≤ 30))) : dyOK n e = false := by
  cases hc : dyOK n e with
  | true => exact absurd (dyOK_t.1 hc) h
  | false => rfl
theorem dyadOf_impl (n e : Int) : FSpec env.P 13 [.int .i64 n, .int .i64 e] (.tup [dyLV (dyD n e), .bool (dyOK n e)]) := by
  refine FSpec_of_code env_ok (fn := Tryd.f13) Tryd.func13 rfl Tryd.call13 _ _ ?_
  ((repeat ((conv => whnf); first | refine brT ?_ | refine brF ?_)); conv => whnf)
  (refine ⟨fun c1 => ?_, fun c1 => ?_⟩ <;> rw [c1])
  · have h := dyOK_no (n := n) (e := e) (by rw [ltI_t] at c1; omega)
    rw [dyD_no h, h]
    ((repeat ((conv => whnf); first | refine brT ?_ | refine brF ?_)); conv => whnf)
    (refine ⟨_, rfl, rfl, ?_⟩; unfold dyLV; repeat (first | exact List.nodup_nil | refine ⟨rfl, ?_⟩))
  ((repeat ((conv => whnf); first | refine brT ?_ | refine brF ?_)); conv => whnf)
  (refine ⟨fun c2 => ?_, fun c2 => ?_⟩ <;> rw [c2])
  · have h := dyOK_no (n := n) (e := e) (by rw [ltI_t] at c2; omega)
    rw [dyD_no h, h]
    ((repeat ((conv => whnf); first | refine brT ?_ | refine brF ?_)); conv => whnf)
    (refine ⟨_, rfl, rfl, ?_⟩; unfold dyLV; repeat (first | exact List.nodup_nil | refine ⟨rfl, ?_⟩))
  ((repeat ((conv => whnf); first | refine brT ?_ | refine brF ?_)); conv => whnf)
  (refine ⟨fun c3 => ?_, fun c3 => ?_⟩ <;> rw [c3])
  · have h := dyOK_no (n := n) (e := e) (by rw [ltI_t] at c3; omega)
    rw [dyD_no h, h]
    ((repeat ((conv => whnf); first | refine brT ?_ | refine brF ?_)); conv => whnf)
    (refine ⟨_, rfl, rfl, ?_⟩; unfold dyLV; repeat (first | exact List.nodup_nil | refine ⟨rfl, ?_⟩))
  ((repeat ((conv => whnf); first | refine brT ?_ | refine brF ?_)); conv => whnf)
  (refine ⟨fun c4 => ?_, fun c4 => ?_⟩ <;> rw [c4])
  · have h := dyOK_no (n := n) (e := e) (by rw [ltI_t] at c4; omega)
    rw [dyD_no h, h]
    ((repeat ((conv => whnf); first | refine brT ?_ | refine brF ?_)); conv => whnf)
    (refine ⟨_, rfl, rfl, ?_⟩; unfold dyLV; repeat (first | exact List.nodup_nil | refine ⟨rfl, ?_⟩))
  rw [ltI_f] at c1 c2 c3 c4
  have h := dyOK_t.2 (show (0 ≤ n ∧ n ≤ 1073741824) ∧ (0 ≤ e ∧ e ≤ 30) by omega)
  rw [dyD_yes h, h]
  have hl := lowest_spec n.toNat e.toNat (by omega) (by omega)
  rw [Int.toNat_of_nonneg (by omega), Int.toNat_of_nonneg (by omega)] at hl
  generalize rdc n.toNat e.toNat = d at hl
  ((repeat ((conv => whnf); first | refine brT ?_ | refine brF ?_)); conv => whnf)
  refine ⟨_, hl, ?_⟩
  ((repeat ((conv => whnf); first | refine brT ?_ | refine brF ?_)); conv => whnf)
  (refine ⟨_, rfl, rfl, ?_⟩; unfold dyLV; repeat (first | exact List.nodup_nil | refine ⟨rfl, ?_⟩))
def idLV (d : Int × Int) : LV := .st [.int .i64 d.1, .int .i64 d.2]
end Go.Proofs.YtplkockghigpdaaDoor


namespace Go.Proofs.YtplkockghigpdaaDoor
open Go.Lg
set_option maxHeartbeats 3200000
set_option maxRecDepth 10000
set_option linter.unusedVariables false
set_option linter.unusedSimpArgs false

/-! ### Adding dyads -/
def vd (n e : Int) : Bool := dyOK n e && (eqI e 0 || eqI (Int.tmod n 2) 1)
theorem vd_nat {n e : Int} (h : vd n e = true) : ∃ a b : Nat, n = a ∧ e = b ∧ a ≤ 1073741824 ∧ b ≤ 30 ∧ rdc a b = (a, b) := by
  unfold vd at h
  obtain ⟨h1, h2⟩ := Bool.and_eq_true_iff.1 h
  rw [dyOK_t] at h1
  refine ⟨n.toNat, e.toNat, by omega, by omega, by omega, by omega, rdc_fix.2 ?_⟩
  rcases Bool.or_eq_true_iff.1 h2 with h3 | h3
  · rw [eqI_t] at h3; left; omega
  · rw [eqI_t] at h3; right
    have : Int.tmod n 2 = n % 2 := by rw [Int.tmod_eq_emod_of_nonneg (by omega)]
    omega
theorem vd_same (n e : Int) : (dyOK n e && (eqI n ((dyD n e).1 : Int) && eqI e ((dyD n e).2 : Int))) = vd n e := by
  unfold vd
  cases h : dyOK n e with
  | false => rfl
  | true =>
    rw [dyD_yes h]
    rw [dyOK_t] at h
    obtain ⟨a, rfl⟩ : ∃ a : Nat, n = a := ⟨n.toNat, by omega⟩
    obtain ⟨b, rfl⟩ : ∃ b : Nat, e = b := ⟨e.toNat, by omega⟩
    simp only [Bool.true_and, Int.toNat_natCast]
    have ht : Int.tmod (a : Int) 2 = ((a % 2 : Nat) : Int) := rfl
    rw [ht]
    rw [Bool.eq_iff_iff, Bool.and_eq_true_iff, Bool.or_eq_true_iff, eqI_t, eqI_t, eqI_t, eqI_t]
    have hf := @rdc_fix a b
    constructor
    · rintro ⟨h1, h2⟩
      have : rdc a b = (a, b) := Prod.ext (by show (rdc a b).1 = a; omega) (by show (rdc a b).2 = b; omega)
      rcases hf.1 this with h | h <;> omega
    · intro h1
      have : rdc a b = (a, b) := hf.2 (by omega)
      rw [this]; exact ⟨rfl, rfl⟩
theorem valid_spec (n e : Int) : FSpec env.P 39 [idLV (n, e)] (.bool (vd n e)) := by
  refine FSpec_of_code env_ok (fn := Tryd.f39) Tryd.func39 rfl Tryd.call39 _ _ ?_
  unfold vd dyOK
  ((repeat ((conv => whnf); first | refine brT ?_ | refine brF ?_)); conv => whnf)
  refine ⟨_, l1In_spec n 0 1073741824, ?_⟩
  ((repeat ((conv => whnf); first | refine brT ?_ | refine brF ?_)); conv => whnf)
  (refine ⟨fun c1 => ?_, fun c1 => ?_⟩ <;> rw [c1])
  · ((repeat ((conv => whnf); first | refine brT ?_ | refine brF ?_)); conv => whnf)
    refine ⟨_, l1In_spec e 0 30, ?_⟩
    ((repeat ((conv => whnf); first | refine brT ?_ | refine brF ?_)); conv => whnf)
    (refine ⟨fun c2 => ?_, fun c2 => ?_⟩ <;> rw [c2])
    · ((repeat ((conv => whnf); first | refine brT ?_ | refine brF ?_)); conv => whnf)
      (refine ⟨fun c3 => ?_, fun c3 => ?_⟩ <;> rw [c3])
      · ((repeat ((conv => whnf); first | refine brT ?_ | refine brF ?_)); conv => whnf); exact fin rfl
      · ((repeat ((conv => whnf); first | refine brT ?_ | refine brF ?_)); conv => whnf)
        refine ⟨by decide, ?_⟩
        ((repeat ((conv => whnf); first | refine brT ?_ | refine brF ?_)); conv => whnf)
        exact fin (by simp)
    · ((repeat ((conv => whnf); first | refine brT ?_ | refine brF ?_)); conv => whnf); exact fin (by simp)
  · ((repeat ((conv => whnf); first | refine brT ?_ | refine brF ?_)); conv => whnf); exact fin (by simp)
theorem isDyad_spec (n e : Int) : FSpec env.P 41 [idLV (n, e)] (.bool (vd n e)) := by
  refine FSpec_of_code env_ok (fn := Tryd.f41) Tryd.func41 rfl Tryd.call41 _ _ ?_
  have hD := dyadOf_impl n e
  have hs := vd_same n e
  generalize dyD n e = d at hD hs
  ((repeat ((conv => whnf); first | refine brT ?_ | refine brF ?_)); conv => whnf)
  refine ⟨_, hD, ?_⟩
  ((repeat ((conv => whnf); first | refine brT ?_ | refine brF ?_)); conv => whnf)
  (refine ⟨fun c1 => ?_, fun c1 => ?_⟩ <;> rw [c1])
  · ((repeat ((conv => whnf); first | refine brT ?_ | refine brF ?_)); conv => whnf)
    rw [c1] at hs
    refine fin ?_
    rw [← hs]
    simp [eq1, eqAll]
  · ((repeat ((conv => whnf); first | refine brT ?_ | refine brF ?_)); conv => whnf)
    rw [c1] at hs
    exact fin hs
theorem shl_nat (a t : Nat) (h : a * 2 ^ t < 9223372036854775808) (ht : t ≤ 30) : shlI .i64 (a : Int) (t : Int) = ((a * 2 ^ t : Nat) : Int) := by
  unfold shlI
  rw [show min (Int.toNat (t : Int)) IntKind.i64.bits = t by rw [Int.toNat_natCast]; exact Nat.min_eq_left (by show t ≤ 64; omega)]
  have e : (a : Int) * 2 ^ t = ((a * 2 ^ t : Nat) : Int) := by push_cast; rfl
  rw [e]
  exact wrap64 (by omega) (by omega)
end Go.Proofs.YtplkockghigpdaaDoor


namespace Go.Proofs.YtplkockghigpdaaDoor
open Go.Shelf
def laysM171_ren : Go.Shelf.Ren := ⟨fun | 171 => 44 | 243 => 70 | 246 => 95 | 283 => 111 | 284 => 112 | 285 => 113 | 286 => 114 | 129 => 130 | 317 => 129 | 318 => 131 | 319 => 132 | 320 => 69 | 337 => 93 | 338 => 94 | n => n, fun | 3 => 3 | 9 => 9 | 2 => 2 | 4 => 4 | 171 => 139 | 0 => 0 | 53 => 112 | 37 => 50 | 5 => 5 | 173 => 141 | 212 => 160 | 51 => 120 | 20 => 20 | 213 => 161 | 46 => 93 | 232 => 137 | 233 => 138 | n => n, fun | 17 => 2 | 18 => 0 | 19 => 1 | n => n⟩
theorem laysM171 : Go.Proofs.LaysM.n171 Tryd.prog laysM171_ren := {
  mixed := by kernel_rfl
  f129 := Tryd.func130.trans (congrArg some (by kernel_rfl))
  f171 := Tryd.func44.trans (congrArg some (by kernel_rfl))
  f243 := Tryd.func70.trans (congrArg some (by kernel_rfl))
  f246 := Tryd.func95.trans (congrArg some (by kernel_rfl))
  f283 := Tryd.func111.trans (congrArg some (by kernel_rfl))
  f284 := Tryd.func112.trans (congrArg some (by kernel_rfl))
  f285 := Tryd.func113.trans (congrArg some (by kernel_rfl))
  f286 := Tryd.func114.trans (congrArg some (by kernel_rfl))
  f317 := Tryd.func129.trans (congrArg some (by kernel_rfl))
  f318 := Tryd.func131.trans (congrArg some (by kernel_rfl))
  f319 := Tryd.func132.trans (congrArg some (by kernel_rfl))
  f320 := Tryd.func69.trans (congrArg some (by kernel_rfl))
  f337 := Tryd.func93.trans (congrArg some (by kernel_rfl))
  f338 := Tryd.func94.trans (congrArg some (by kernel_rfl))
  t0 := Tryd.underlying0
  a0 := Tryd.isAgg0
  z0 := Tryd.sizeOf0
  v0 := Tryd.zeroValue0
  t2 := Tryd.underlying2
  a2 := Tryd.isAgg2
  z2 := Tryd.sizeOf2
  v2 := Tryd.zeroValue2
  t3 := Tryd.underlying3
  a3 := Tryd.isAgg3
  z3 := Tryd.sizeOf3
  v3 := Tryd.zeroValue3
  t4 := Tryd.underlying4
  a4 := Tryd.isAgg4
  z4 := Tryd.sizeOf4
  v4 := Tryd.zeroValue4
  t5 := Tryd.underlying5
  a5 := Tryd.isAgg5
  z5 := Tryd.sizeOf5
  v5 := Tryd.zeroValue5
  t9 := Tryd.underlying9
  a9 := Tryd.isAgg9
  z9 := Tryd.sizeOf9
  v9 := Tryd.zeroValue9
  t20 := Tryd.underlying20
  a20 := Tryd.isAgg20
  z20 := Tryd.sizeOf20
  v20 := Tryd.zeroValue20
  t37 := Tryd.underlying50
  a37 := Tryd.isAgg50
  z37 := Tryd.sizeOf50
  v37 := Tryd.zeroValue50
  t46 := Tryd.underlying93
  a46 := Tryd.isAgg93
  z46 := Tryd.sizeOf93
  v46 := Tryd.zeroValue93
  t51 := Tryd.underlying120
  a51 := Tryd.isAgg120
  z51 := Tryd.sizeOf120
  v51 := Tryd.zeroValue120
  t53 := Tryd.underlying112
  a53 := Tryd.isAgg112
  z53 := Tryd.sizeOf112
  v53 := Tryd.zeroValue112
  t171 := Tryd.underlying139
  a171 := Tryd.isAgg139
  z171 := Tryd.sizeOf139
  v171 := Tryd.zeroValue139
  t173 := Tryd.underlying141
  a173 := Tryd.isAgg141
  z173 := Tryd.sizeOf141
  v173 := Tryd.zeroValue141
  t212 := Tryd.underlying160
  a212 := Tryd.isAgg160
  z212 := Tryd.sizeOf160
  v212 := Tryd.zeroValue160
  t213 := Tryd.underlying161
  a213 := Tryd.isAgg161
  z213 := Tryd.sizeOf161
  t232 := Tryd.underlying137
  a232 := Tryd.isAgg137
  z232 := Tryd.sizeOf137
  v232 := Tryd.zeroValue137
  t233 := Tryd.underlying138
  a233 := Tryd.isAgg138
  z233 := Tryd.sizeOf138
  v233 := Tryd.zeroValue138
  g17 := by kernel_rfl
  g18 := by kernel_rfl
  g19 := by kernel_rfl
  i0 := by kernel_rfl
  i2 := by kernel_rfl
  i3 := by kernel_rfl
  i4 := by kernel_rfl
  i5 := by kernel_rfl
  i9 := by kernel_rfl
  i20 := by kernel_rfl
  i37 := by kernel_rfl
  i46 := by kernel_rfl
  i51 := by kernel_rfl
  i53 := by kernel_rfl
  i171 := by kernel_rfl
  i173 := by kernel_rfl
  i212 := by kernel_rfl
  i232 := by kernel_rfl
  i233 := by kernel_rfl
  m17 := by kernel_rfl
  m18 := by kernel_rfl
  m19 := by kernel_rfl }
open Go.RowKit Go.Sort Go.Lib in
theorem itoa_calls (n : Int) (h0 : -9223372036854775808 ≤ n) (h1 : n ≤ 9223372036854775807) (w : World) (htab : Lib.TabIs Tryd.prog w "internal/strconv.uint64pow10" .u64 Lib.pow10Tab) :
    Calls Tryd.prog 44 #[.int .i64 n] w fun e w' => e = .returned (.string ⟨(Lib.itoa n).toArray⟩) ∧ ∃ k os, w' = grow (w.drewN k) os := Any.strconv_Itoa laysM171 n h0 h1 w htab
open Go.Lg
def itoaB (n : Nat) : ByteArray := ⟨(Lib.decDigits n).toArray⟩
theorem dec_len : ∀ (k n : Nat), n < 10 ^ k → 0 < k → (Lib.decDigits n).length ≤ k
  | 0, n, h, h0 => by omega
  | k + 1, n, h, _ => by
    rw [Lib.decDigits]
    split
    · simp
    · rename_i h10
      rw [List.length_append]
      have hk : 0 < k := by
        rcases Nat.eq_zero_or_pos k with rfl | hk
        · simp at h; omega
        · exact hk
      have := dec_len k (n / 10) (by rw [Nat.pow_succ] at h; omega) hk
      simp; exact this
theorem itoaB_size {n : Nat} (h : n < 9223372036854775808) : (itoaB n).size ≤ 19 := by
  have := dec_len 19 n (by omega) (by omega)
  unfold itoaB ByteArray.size
  simpa using this
theorem below_grow (w : World) (k : Nat) (os : Array Obj) : Below w.heap.size w (Go.Sort.grow (w.drewN k) os) := by
  refine ⟨rfl, rfl, rfl, ?_, fun b hb => ?_, ?_⟩
  · show w.heap.size ≤ (w.heap ++ os).size
    rw [Array.size_append]; omega
  · show (w.heap ++ os)[b]? = w.heap[b]?
    exact Array.getElem?_append_left hb
  · show w.drawn ≤ w.drawn + k
    omega
theorem itoa_spec (n : Nat) (hn : n < 9223372036854775808) : FSpec env.P 44 [.int .i64 (n : Int)] (.str (itoaB n)) := by
  unfold FSpec
  refine ⟨Tryd.call44, fun w O vs hI hO hsz hargs => ?_⟩
  obtain ⟨v0, rfl⟩ : ∃ v0, vs = #[v0] := by
    obtain ⟨vl⟩ := vs
    match vl, hsz with
    | [a], _ => exact ⟨a, rfl⟩
  have a0 := hargs 0 _ v0 rfl rfl
  simp only [RT, RT1, RC, List.cons.injEq, and_true] at a0
  subst a0
  refine (itoa_calls n (by omega) (by omega) w hI.2.2).mono ?_
  rintro e w' ⟨rfl, k, os, rfl⟩
  have hs : (itoaB n).size ≤ maxLen := Nat.le_trans (itoaB_size hn) (by unfold maxLen; omega)
  have he : (⟨(Lib.itoa (n : Int)).toArray⟩ : ByteArray) = itoaB n := by
    unfold itoaB Lib.itoa
    rw [if_neg (by omega), Int.toNat_natCast]
  refine ⟨_, rfl, below_grow w k os, [], List.nodup_nil, ?_⟩
  rw [he]
  simp [RR, RR1, RRc, RC, hs]
end Go.Proofs.YtplkockghigpdaaDoor


namespace Go.Proofs.YtplkockghigpdaaDoor
open Go.Lg
set_option maxHeartbeats 3200000
set_option maxRecDepth 10000
set_option linter.unusedVariables false
set_option linter.unusedSimpArgs false

/-! ### Numbers in decimal -/
def dgB (r : Nat) : ByteArray := bytesOf [((48 + r : Nat) : Int)]
theorem dgB_eq (r : Nat) : dgB r = ⟨[UInt8.ofNat (48 + r)].toArray⟩ := by
  unfold dgB bytesOf
  simp only [List.foldl_cons, List.foldl_nil, Int.toNat_natCast]
  rfl
theorem dgB_size (r : Nat) : (dgB r).size = 1 := by rw [dgB_eq]; rfl
def itB (m : Nat) (s : ByteArray) : ByteArray := match m with | 0 => s | _ => itoaB m ++ s
theorem ba_app (a b : List UInt8) : (⟨a.toArray⟩ : ByteArray) ++ (⟨b.toArray⟩ : ByteArray) = ⟨(a ++ b).toArray⟩ := by
  apply ByteArray.ext
  rw [ByteArray.data_append]
  simp
theorem itoaB_it (m : Nat) : itoaB m = itB (m / 10) (dgB (m % 10)) := by
  unfold itoaB
  rw [Lib.decDigits]
  split
  · rename_i h
    rw [show m / 10 = 0 by omega, show m % 10 = m by omega, dgB_eq]
    rfl
  · rename_i h
    obtain ⟨k, hk⟩ : ∃ k, m / 10 = k + 1 := ⟨m / 10 - 1, by omega⟩
    rw [hk, dgB_eq]
    show _ = itoaB (k + 1) ++ _
    unfold itoaB
    rw [ba_app]
theorem itB_app (m : Nat) (s t : ByteArray) : itB m s ++ t = itB m (s ++ t) := by
  cases m with
  | zero => rfl
  | succ k => show itoaB (k + 1) ++ s ++ t = itoaB (k + 1) ++ (s ++ t); rw [ByteArray.append_assoc]
theorem itB_step {m : Nat} (h : 0 < m) (s : ByteArray) : itB m s = itB (m / 10) (dgB (m % 10) ++ s) := by
  obtain ⟨k, rfl⟩ : ∃ k, m = k + 1 := ⟨m - 1, by omega⟩
  show itoaB (k + 1) ++ s = _
  rw [itoaB_it (k + 1), itB_app]
theorem itB_size {m : Nat} {s r : ByteArray} (h : itB m s = r) : s.size ≤ r.size := by
  subst h
  cases m with
  | zero => exact Nat.le_refl _
  | succ k => show s.size ≤ (itoaB (k + 1) ++ s).size; rw [ByteArray.size_append]; omega
theorem number_spec (n : Nat) (hn : n < 9223372036854775808) : FSpec env.P 43 [.int .i64 (n : Int)] (.str (itoaB n)) := by
  refine FSpec_of_code env_ok (fn := Tryd.f43) Tryd.func43 rfl Tryd.call43 _ _ ?_
  have hm : ∀ m : Nat, Int.tmod (m : Int) 10 = ((m % 10 : Nat) : Int) := fun m => rfl
  have hd : ∀ m : Nat, m < 9223372036854775808 → IntKind.i64.wrap (Int.tdiv (m : Int) 10) = ((m / 10 : Nat) : Int) := fun m h => by
    rw [show Int.tdiv (m : Int) 10 = ((m / 10 : Nat) : Int) from rfl]; exact wrap64 (by omega) (by omega)
  have hw : ∀ m : Nat, IntKind.i64.wrap (48 + ((m % 10 : Nat) : Int)) = ((48 + m % 10 : Nat) : Int) := fun m => by rw [wrap64 (by omega) (by omega)]; omega
  have hu : ∀ m : Nat, IntKind.u8.wrap ((48 + m % 10 : Nat) : Int) = ((48 + m % 10 : Nat) : Int) := fun m => by rw [IntKind.wrap_u8]; omega
  have h19 := itoaB_size hn
  have hst := itoaB_it n
  ((repeat ((conv => whnf); first | refine brT ?_ | refine brF ?_)); conv => whnf)
  refine ⟨by decide, ?_⟩
  ((repeat ((conv => whnf); first | refine brT ?_ | refine brF ?_)); conv => whnf)
  rw [hm, hw, hu]
  refine ⟨rfl, [((48 + n % 10 : Nat) : Int)], rfl, ?_⟩
  rw [show bytesOf [((48 + n % 10 : Nat) : Int)] = dgB (n % 10) from rfl]
  ((repeat ((conv => whnf); first | refine brT ?_ | refine brF ?_)); conv => whnf)
  refine ⟨by decide, ?_⟩
  ((repeat ((conv => whnf); first | refine brT ?_ | refine brF ?_)); conv => whnf)
  rw [hd n hn]
  generalize hD : dgB (n % 10) = D at hst ⊢
  refine loop_ruleR (α := Nat × ByteArray) [] (fun x => [(8, .undef), (0, .int .i64 (x.1 : Int)), (3, .str x.2)]) (fun x => []) (fun x => x.1) (fun x => x.1 ≤ n ∧ itB x.1 x.2 = itoaB n) (n / 10, D) ⟨Nat.div_le_self _ _, hst.symm⟩ ?_ ?_
  · refine ⟨?_, trivial, rfl⟩
    ((repeat ((conv => whnf); refine ⟨rfl, rfl, ?_⟩)); trivial)
  rintro ⟨m, q⟩ ⟨h1, h2⟩
  dsimp only at h1 h2
  have hq := itB_size h2
  generalize hK : kk _ = KK
  ((repeat ((conv => whnf); first | refine brT ?_ | refine brF ?_)); conv => whnf)
  (refine ⟨fun g1 => ?_, fun g1 => ?_⟩ <;> rw [g1])
  · have h0 : 0 < m := by rw [ltI_t] at g1; have : (0 : Int) < m := g1; omega
    rw [itB_step h0] at h2
    ((repeat ((conv => whnf); first | refine brT ?_ | refine brF ?_)); conv => whnf)
    refine ⟨by decide, ?_⟩
    ((repeat ((conv => whnf); first | refine brT ?_ | refine brF ?_)); conv => whnf)
    rw [hm, hw, hu]
    refine ⟨rfl, [((48 + m % 10 : Nat) : Int)], rfl, ?_⟩
    rw [show bytesOf [((48 + m % 10 : Nat) : Int)] = dgB (m % 10) from rfl]
    ((repeat ((conv => whnf); first | refine brT ?_ | refine brF ?_)); conv => whnf)
    refine ⟨by rw [dgB_size]; show 1 + q.size ≤ _; unfold maxLen; omega, ?_⟩
    ((repeat ((conv => whnf); first | refine brT ?_ | refine brF ?_)); conv => whnf)
    refine ⟨by decide, ?_⟩
    ((repeat ((conv => whnf); first | refine brT ?_ | refine brF ?_)); conv => whnf)
    rw [hd m (by omega)]
    subst hK
    refine round_endR [] (m / 10, dgB (m % 10) ++ q) ⟨by show m / 10 ≤ n; omega, h2⟩ (by show m / 10 < m; omega) ⟨?_, trivial, rfl⟩
    ((repeat ((conv => whnf); refine ⟨rfl, rfl, ?_⟩)); trivial)
  · have h0 : m = 0 := by rw [ltI_f] at g1; have : (m : Int) ≤ 0 := g1; omega
    subst h0
    have h3 : q = itoaB n := h2
    subst hK
    rw [h3]
    ((repeat ((conv => whnf); first | refine brT ?_ | refine brF ?_)); conv => whnf)
    exact fin rfl
end Go.Proofs.YtplkockghigpdaaDoor


namespace Go.Proofs.YtplkockghigpdaaDoor
open Go.Lg
set_option maxHeartbeats 3200000
set_option maxRecDepth 10000
set_option linter.unusedVariables false
set_option linter.unusedSimpArgs false

def slashB : ByteArray := ⟨#[47]⟩
def emptyB : ByteArray := ⟨#[]⟩
def fmB (n e : Int) : ByteArray := match vd n e with
  | false => emptyB
  | true => match eqI e 0 with
    | true => itoaB n.toNat
    | false => itoaB n.toNat ++ slashB ++ itoaB (2 ^ e.toNat)
theorem fm_no {n e : Int} (h : vd n e = false) : fmB n e = emptyB := by unfold fmB; rw [h]
theorem fm_int {n e : Int} (h : vd n e = true) (h2 : eqI e 0 = true) : fmB n e = itoaB n.toNat := by unfold fmB; rw [h, h2]
theorem fm_frac {n e : Int} (h : vd n e = true) (h2 : eqI e 0 = false) : fmB n e = itoaB n.toNat ++ slashB ++ itoaB (2 ^ e.toNat) := by unfold fmB; rw [h, h2]
theorem format_spec (n e : Int) : FSpec env.P 18 [idLV (n, e)] (.str (fmB n e)) := by
  refine FSpec_of_code env_ok (fn := Tryd.f18) Tryd.func18 rfl Tryd.call18 _ _ ?_
  have v1 := valid_spec n e
  cases h1 : vd n e with
  | false =>
    rw [fm_no h1]
    rw [h1] at v1
    ((repeat ((conv => whnf); first | refine brT ?_ | refine brF ?_)); conv => whnf)
    refine ⟨_, v1, ?_⟩
    ((repeat ((conv => whnf); first | refine brT ?_ | refine brF ?_)); conv => whnf)
    rw [show notB false = true by simp [notB]]
    ((repeat ((conv => whnf); first | refine brT ?_ | refine brF ?_)); conv => whnf)
    exact fin rfl
  | true =>
    rw [h1] at v1
    ((repeat ((conv => whnf); first | refine brT ?_ | refine brF ?_)); conv => whnf)
    refine ⟨_, v1, ?_⟩
    ((repeat ((conv => whnf); first | refine brT ?_ | refine brF ?_)); conv => whnf)
    rw [show notB true = false by simp [notB]]
    ((repeat ((conv => whnf); first | refine brT ?_ | refine brF ?_)); conv => whnf)
    (refine ⟨fun h2 => ?_, fun h2 => ?_⟩ <;> rw [h2])
    · rw [fm_int h1 h2]
      obtain ⟨a, b, rfl, rfl, ha, hb, _⟩ := vd_nat h1
      rw [Int.toNat_natCast]
      ((repeat ((conv => whnf); first | refine brT ?_ | refine brF ?_)); conv => whnf)
      refine ⟨_, number_spec a (by omega), ?_⟩
      ((repeat ((conv => whnf); first | refine brT ?_ | refine brF ?_)); conv => whnf)
      exact fin rfl
    · rw [fm_frac h1 h2]
      obtain ⟨a, b, rfl, rfl, ha, hb, _⟩ := vd_nat h1
      rw [Int.toNat_natCast, Int.toNat_natCast]
      have hp : ∀ k, k ≤ b → 2 ^ k ≤ 1073741824 := fun k hk => Nat.le_trans (Nat.pow_le_pow_right (by omega) (show k ≤ 30 by omega)) (by decide)
      have hA := itoaB_size (n := a) (by omega)
      have hB := itoaB_size (n := 2 ^ b) (by have := hp b (Nat.le_refl _); omega)
      ((repeat ((conv => whnf); first | refine brT ?_ | refine brF ?_)); conv => whnf)
      refine loop_rule (α := Nat) (fun k => [(3, .int .i64 ((2 ^ k : Nat) : Int)), (4, .int .i64 (k : Int))]) (fun k => [.box (.st [.int .i64 (a : Int), .int .i64 (b : Int)])]) (fun k => b - k) (fun k => k ≤ b) 0 (Nat.zero_le _) ?_ ?_
      · refine ⟨?_, ⟨rfl, trivial⟩, rfl, rfl⟩
        ((repeat ((conv => whnf); refine ⟨rfl, ?_⟩)); trivial)
      intro k hk
      have hpk := hp k hk
      generalize hK : kk _ = KK
      ((repeat ((conv => whnf); first | refine brT ?_ | refine brF ?_)); conv => whnf)
      (refine ⟨fun g1 => ?_, fun g1 => ?_⟩ <;> rw [g1])
      · have hlt : k < b := by rw [ltI_t] at g1; have : (k : Int) < b := g1; omega
        have e2' : ∀ t u : Nat, u = t * 2 → t ≤ 1073741824 → LV.int .i64 (IntKind.i64.wrap (2 * (t : Int))) = LV.int .i64 (u : Int) := fun t u h1 h2 => by
          rw [wrap64 (by omega) (by omega)]; congr 1; omega
        have e2 := e2' (2 ^ k) (2 ^ (k + 1)) (Nat.pow_succ 2 k) hpk
        have e1 : LV.int .i64 (IntKind.i64.wrap ((k : Int) + 1)) = LV.int .i64 ((k + 1 : Nat) : Int) := step_i hlt (by unfold Go.maxLen; omega)
        ((repeat ((conv => whnf); first | refine brT ?_ | refine brF ?_)); conv => whnf)
        subst hK
        refine round_end (k + 1) hlt (by omega) ⟨?_, ⟨rfl, trivial⟩, rfl, rfl⟩
        repeat ((conv => whnf); first | refine ⟨e1, ?_⟩ | refine ⟨e2, ?_⟩ | refine ⟨rfl, ?_⟩)
        trivial
      obtain rfl : k = b := by rw [ltI_f] at g1; have : (b : Int) ≤ k := g1; omega
      subst hK
      have hN := number_spec (2 ^ k) (by omega)
      generalize 2 ^ k = t at hN hB ⊢
      ((repeat ((conv => whnf); first | refine brT ?_ | refine brF ?_)); conv => whnf)
      refine ⟨_, number_spec a (by omega), ?_⟩
      ((repeat ((conv => whnf); first | refine brT ?_ | refine brF ?_)); conv => whnf)
      refine ⟨?_, ?_⟩
      · show (itoaB a).size + 1 ≤ _; unfold maxLen; omega
      ((repeat ((conv => whnf); first | refine brT ?_ | refine brF ?_)); conv => whnf)
      refine ⟨_, hN, ?_⟩
      ((repeat ((conv => whnf); first | refine brT ?_ | refine brF ?_)); conv => whnf)
      refine ⟨?_, ?_⟩
      · rw [ByteArray.size_append]; show (itoaB a).size + 1 + (itoaB t).size ≤ _; unfold maxLen; omega
      ((repeat ((conv => whnf); first | refine brT ?_ | refine brF ?_)); conv => whnf)
      exact fin rfl
theorem format_impl (n e : Int) : FSpec env.P 19 [idLV (n, e)] (.str (fmB n e)) := by
  refine FSpec_of_code env_ok (fn := Tryd.f19) Tryd.func19 rfl Tryd.call19 _ _ ?_
  have v1 := isDyad_spec n e
  cases h1 : vd n e with
  | false =>
    rw [fm_no h1]
    rw [h1] at v1
    ((repeat ((conv => whnf); first | refine brT ?_ | refine brF ?_)); conv => whnf)
    refine ⟨_, v1, ?_⟩
    ((repeat ((conv => whnf); first | refine brT ?_ | refine brF ?_)); conv => whnf)
    rw [show notB false = true by simp [notB]]
    ((repeat ((conv => whnf); first | refine brT ?_ | refine brF ?_)); conv => whnf)
    exact fin rfl
  | true =>
    rw [h1] at v1
    ((repeat ((conv => whnf); first | refine brT ?_ | refine brF ?_)); conv => whnf)
    refine ⟨_, v1, ?_⟩
    ((repeat ((conv => whnf); first | refine brT ?_ | refine brF ?_)); conv => whnf)
    rw [show notB true = false by simp [notB]]
    ((repeat ((conv => whnf); first | refine brT ?_ | refine brF ?_)); conv => whnf)
    (refine ⟨fun h2 => ?_, fun h2 => ?_⟩ <;> rw [h2])
    · rw [fm_int h1 h2]
      obtain ⟨a, b, rfl, rfl, ha, hb, _⟩ := vd_nat h1
      rw [Int.toNat_natCast]
      ((repeat ((conv => whnf); first | refine brT ?_ | refine brF ?_)); conv => whnf)
      refine ⟨_, itoa_spec a (by omega), ?_⟩
      ((repeat ((conv => whnf); first | refine brT ?_ | refine brF ?_)); conv => whnf)
      exact fin rfl
    · rw [fm_frac h1 h2]
      obtain ⟨a, b, rfl, rfl, ha, hb, _⟩ := vd_nat h1
      rw [Int.toNat_natCast, Int.toNat_natCast]
      have hp : 2 ^ b ≤ 1073741824 := Nat.le_trans (Nat.pow_le_pow_right (by omega) (show b ≤ 30 by omega)) (by decide)
      have hA := itoaB_size (n := a) (by omega)
      have hB := itoaB_size (n := 2 ^ b) (by omega)
      have hs : shlI .i64 1 (b : Int) = ((2 ^ b : Nat) : Int) := by
        have := shl_nat 1 b (by omega) hb
        rw [Nat.one_mul] at this; exact this
      have hN := itoa_spec (2 ^ b) (by omega)
      ((repeat ((conv => whnf); first | refine brT ?_ | refine brF ?_)); conv => whnf)
      refine ⟨true, by kernel_rfl, ?_⟩
      ((repeat ((conv => whnf); first | refine brT ?_ | refine brF ?_)); conv => whnf)
      refine ⟨_, itoa_spec a (by omega), ?_⟩
      ((repeat ((conv => whnf); first | refine brT ?_ | refine brF ?_)); conv => whnf)
      refine ⟨?_, ?_⟩
      · show (itoaB a).size + 1 ≤ _; unfold maxLen; omega
      ((repeat ((conv => whnf); first | refine brT ?_ | refine brF ?_)); conv => whnf)
      refine ⟨?_, ?_⟩
      · show (0 : Int) ≤ (b : Int); omega
      ((repeat ((conv => whnf); first | refine brT ?_ | refine brF ?_)); conv => whnf)
      rw [hs]
      generalize 2 ^ b = t at hN hB ⊢
      refine ⟨_, hN, ?_⟩
      ((repeat ((conv => whnf); first | refine brT ?_ | refine brF ?_)); conv => whnf)
      refine ⟨?_, ?_⟩
      · rw [ByteArray.size_append]; show (itoaB a).size + 1 + (itoaB t).size ≤ _; unfold maxLen; omega
      ((repeat ((conv => whnf); first | refine brT ?_ | refine brF ?_)); conv => whnf)
      exact fin rfl
theorem toDyad_spec (x : Int × Int) : FSpec env.P 16 [idLV x] (idLV x) := by
  refine FSpec_of_code env_ok (fn := Tryd.f16) Tryd.func16 rfl Tryd.call16 _ _ ?_
  obtain ⟨a, b⟩ := x
  ((repeat ((conv => whnf); first | refine brT ?_ | refine brF ?_)); conv => whnf)
  (refine ⟨_, rfl, rfl, ?_⟩; unfold idLV; repeat (first | exact List.nodup_nil | refine ⟨rfl, ?_⟩))
theorem law_formatDyad (x : Int × Int) : FSpec env.P 5 [idLV x] (.bool true) := by
  refine FSpec_of_code env_ok (fn := Tryd.f5) Tryd.func5 rfl Tryd.call5 _ _ ?_
  obtain ⟨n, e⟩ := x
  have hI := format_impl n e
  have hS := format_spec n e
  have hT := toDyad_spec (n, e)
  have hq : ∀ s : ByteArray, eqS s s = true := fun s => by unfold eqS; exact beq_self_eq_true _
  generalize fmB n e = s at hI hS
  ((repeat ((conv => whnf); first | refine brT ?_ | refine brF ?_)); conv => whnf)
  ((repeat' (((repeat ((conv => whnf); first | refine brT ?_ | refine brF ?_)); conv => whnf); first | (refine And.intro ?_ ?_ <;> (intro h; rw [h]; revert h; intro _)) | (refine Exists.intro true (And.intro (a := drawB _ _ = true) (by kernel_rfl) ?_)) | (refine Exists.intro _ (And.intro (hT) ?_)) | (refine Exists.intro _ (And.intro (hS) ?_)) | (refine Exists.intro _ (And.intro (hI) ?_)))); all_goals ((repeat ((conv => whnf); first | refine brT ?_ | refine brF ?_)); conv => whnf))
  all_goals (refine fin ?_; simp_all [notB])
abbrev shDy : Sh := .st [.int .i64, .int .i64]
theorem dy_of_sh {x : LV} (h : hasSh shDy x) : ∃ p : Int × Int, x = idLV p ∧ True := by
  simp only [hasSh] at h
  obtain ⟨xs, rfl, h⟩ := h
  match xs, h with
  | [a, b], h =>
    simp only [hasShs, hasSh] at h
    obtain ⟨⟨n, rfl⟩, ⟨m, rfl⟩, _⟩ := h
    exact ⟨(n, m), rfl, trivial⟩
  | [], h => simp [hasShs] at h
  | [_], h => simp [hasShs] at h
  | _ :: _ :: _ :: _, h => simp [hasShs] at h
end Go.Proofs.YtplkockghigpdaaDoor


namespace Go.Proofs.YtplkockghigpdaaDoor
namespace Seat
open Go.RowKit
abbrev laid2 : List (String × DataW Unit) := Rows.fnExactFormatDyadRow.laid
set_option maxRecDepth 100000 in
theorem door_met (os : Os) (args : Array Value) : laidMetH Tryd.prog laid2 ((World.doorLaid Tryd.prog 400 os).forCall (fun _ _ => 0) ⟨#[], args, []⟩).memory :=
  laidMetH_of_parts3 (fuel := 8) (laidMet_of_run' 8 (by kernel_rfl) (by kernel_rfl)) (by kernel_rfl) (by kernel_rfl)
set_option maxRecDepth 100000 in
theorem door_shaped (os : Os) (args : Array Value) : ((World.doorLaid Tryd.prog 400 os).forCall (fun _ _ => 0) ⟨#[], args, []⟩).Shaped Tryd.prog := World.shaped_of_RefB (by kernel_rfl) (by kernel_rfl)
end Seat
end Go.Proofs.YtplkockghigpdaaDoor

