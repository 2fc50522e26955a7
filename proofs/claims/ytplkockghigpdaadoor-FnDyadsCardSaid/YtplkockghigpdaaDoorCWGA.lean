/- The types of this seat's program, as the logic of values has them. -/
import Derived.Test.YtplkockghigpdaaDoorRows
import Derived.Test.YtplkockghigpdaaDoorCLgN
import Derived.KernelRfl
import Derived.Lib.LaidTab
import Derived.Lib.TrailingZeros
import Derived.LaidMore
import Derived.Stop.LaidErr
import Derived.MakeChecks
import Derived.Shelf.Spec.TrailingZeros
import Derived.WalkKit
import Derived.Test.YtplkockghigpdaaDoorCLgWS
import Derived.Test.YtplkockghigpdaaDoorCSeat
import Derived.Test.YtplkockghigpdaaDoorTie
import Derived.OpenShut
import Derived.Stop.Joined
namespace Go.Proofs.YtplkockghigpdaaDoor
open Go.Lg
def tyL : List (Nat × TyI) :=
  [(2, ⟨.int .i64, 1, 8⟩),
   (3, ⟨.int .i64, 1, 8⟩),
   (4, ⟨.bool, 1, 1⟩),
   (5, ⟨.int .u8, 1, 1⟩),
   (9, ⟨.str, 1, 16⟩),
   (21, ⟨.int .i32, 1, 4⟩),
   (23, ⟨.struct [3, 3] [0, 1], 2, 16⟩),
   (28, ⟨.struct [3, 3] [0, 1], 2, 16⟩),
   (34, ⟨.slice 95, 1, 24⟩),
   (35, ⟨.slice 101, 1, 24⟩),
   (37, ⟨.struct [34, 35] [0, 1], 2, 48⟩),
   (40, ⟨.slice 82, 1, 24⟩),
   (41, ⟨.slice 99, 1, 24⟩),
   (43, ⟨.struct [40, 41] [0, 1], 2, 48⟩),
   (50, ⟨.slice 5, 1, 24⟩),
   (51, ⟨.slice 23, 1, 24⟩),
   (56, ⟨.slice 3, 1, 24⟩),
   (69, ⟨.slice 51, 1, 24⟩),
   (74, ⟨.slice 56, 1, 24⟩),
   (75, ⟨.slice 56, 1, 24⟩),
   (82, ⟨.struct [9, 3, 3, 3, 3, 3] [0, 1, 2, 3, 4, 5], 6, 56⟩),
   (86, ⟨.slice 56, 1, 24⟩),
   (93, ⟨.int .u64, 1, 8⟩),
   (95, ⟨.struct [9, 3, 3, 3, 3, 3] [0, 1, 2, 3, 4, 5], 6, 56⟩),
   (99, ⟨.struct [3, 3, 3, 3] [0, 1, 2, 3], 4, 32⟩),
   (101, ⟨.struct [3, 3, 3, 3] [0, 1, 2, 3], 4, 32⟩),
   (104, ⟨.other, 1, 8⟩),
   (111, ⟨.other, 1, 8⟩),
   (112, ⟨.int .u64, 1, 8⟩),
   (113, ⟨.int .u64, 1, 8⟩),
   (120, ⟨.int .u32, 1, 4⟩),
   (136, ⟨.struct [50, 3, 3] [0, 1, 2], 3, 40⟩),
   (163, ⟨.other, 1, 8⟩)]
def zL : List (Nat × LV) :=
  [(2, (.int .i64 0)),
   (3, (.int .i64 0)),
   (4, (.bool false)),
   (5, (.int .u8 0)),
   (9, (.str ⟨#[]⟩)),
   (21, (.int .i32 0)),
   (23, (.st [(.int .i64 0), (.int .i64 0)])),
   (28, (.st [(.int .i64 0), (.int .i64 0)])),
   (34, .nil),
   (35, .nil),
   (37, (.st [.nil, .nil])),
   (40, .nil),
   (41, .nil),
   (43, (.st [.nil, .nil])),
   (50, .nil),
   (51, .nil),
   (56, .nil),
   (69, .nil),
   (74, .nil),
   (75, .nil),
   (82, (.st [(.str ⟨#[]⟩), (.int .i64 0), (.int .i64 0), (.int .i64 0), (.int .i64 0), (.int .i64 0)])),
   (86, .nil),
   (93, (.int .u64 0)),
   (95, (.st [(.str ⟨#[]⟩), (.int .i64 0), (.int .i64 0), (.int .i64 0), (.int .i64 0), (.int .i64 0)])),
   (99, (.st [(.int .i64 0), (.int .i64 0), (.int .i64 0), (.int .i64 0)])),
   (101, (.st [(.int .i64 0), (.int .i64 0), (.int .i64 0), (.int .i64 0)])),
   (104, .undef),
   (111, .undef),
   (112, (.int .u64 0)),
   (113, (.int .u64 0)),
   (120, (.int .u32 0)),
   (136, (.st [.nil, (.int .i64 0), (.int .i64 0)])),
   (163, .undef)]
def cL : List (Nat × List (Nat × Nat)) :=
  [(23, [(3, 0), (3, 1)]),
   (28, [(3, 0), (3, 1)]),
   (82, [(9, 0), (3, 1), (3, 2), (3, 3), (3, 4), (3, 5)]),
   (95, [(9, 0), (3, 1), (3, 2), (3, 3), (3, 4), (3, 5)]),
   (99, [(3, 0), (3, 1), (3, 2), (3, 3)]),
   (101, [(3, 0), (3, 1), (3, 2), (3, 3)])]
def mL : MTab :=
  []
def bL : List (Nat × Nat) := []
def mpL : List (TypeId × MK × TypeId × TypeId) := []
noncomputable def env : Env := { P := Tryd.prog, T := lookT tyL, Z := lookT zL, C := lookT cL, M := mL, bd := bL, mp := mpL }
theorem tyL_ok : tyL.all (fun x => tyOKB Tryd.prog x.1 x.2) = true := by kernel_rfl
theorem zL_ok : zL.all (fun x => zOKB Tryd.prog x.1 x.2) = true := by kernel_rfl
theorem cL_ok : cL.all (fun x => cmpB Tryd.prog x.1 x.2) = true := by kernel_rfl
theorem mL_ok : mL.all (fun x => methB Tryd.prog x.1 x.2.1 x.2.2) = true := by kernel_rfl
theorem bL_ok : bL.all (fun x => bdOKB Tryd.prog x.1) = true := by kernel_rfl
theorem mpL_ok : mpL.all (mpB Tryd.prog) = true := by kernel_rfl
theorem laid_ok : laidOutB Tryd.prog = true := by kernel_rfl
/-- What a run may lean on of its world: nothing. -/
theorem g64 : Tryd.prog.globalNamed "math/bits.deBruijn64tab" = some 1 := by kernel_rfl
theorem g64Type : (Tryd.prog.globals[1]?).map (·.type) = some 138 := by kernel_rfl
theorem cells5' : Tryd.prog.cellsOf 5 = 1 := by kernel_rfl
theorem cells64 : Tryd.prog.cellsOf 138 = 64 := by kernel_rfl
/-- The table of math/bits, as it lies. -/
def TabLies (w : World) : Prop := ∀ j, j < 64 → w.cell? ⟨1, j, none⟩ = some (.int .u8 (Lib.deBruijn64tab.getD j 0 : Nat))
instance gi : GI := { low := 2, F := TabLies, keepF := fun h k t j hj => by rw [cell_of_block (k.block 1 (by omega))]; exact t j hj }
theorem tab_data : (Rows.laid_math_bits_deBruijn64tab : DataW Unit) = Lib.tabData .u8 (Lib.deBruijn64tab.map fun n : Nat => (n : Int)) := by rfl
theorem gi_of {W : World} (h : laidMetH Tryd.prog Rows.fnExactDyadOfRow.laid W) : GI.I W.heap.size W := by
  rw [MakeChecks.laidMetH_plain _ _ _ (by kernel_rfl)] at h
  have h2 := laidMet.tail h
  have ht : Lib.TabIs Tryd.prog W "math/bits.deBruijn64tab" .u8 (Lib.deBruijn64tab.map fun n : Nat => (n : Int)) := by
    refine Lib.tabIs_of_head (rest := []) g64 g64Type Tryd.underlying138 Tryd.underlying5 cells5' cells64 ?_
    rw [← tab_data]; exact h2
  have hc : TabLies W := fun j hj => by
    have := ht.cell g64 j (by simpa [Lib.deBruijn64tab] using hj)
    rw [this]
    simp [List.getD_eq_getElem?_getD, show j < Lib.deBruijn64tab.length from by simpa [Lib.deBruijn64tab] using hj]
  refine ⟨?_, hc⟩
  have h0 := hc 0 (by decide)
  show 2 ≤ W.heap.size
  rcases Nat.lt_or_ge 1 W.heap.size with h | h
  · exact h
  · unfold World.cell? at h0
    rw [Array.getElem?_eq_none h] at h0
    cases h0
theorem env_ok : EnvOK env := ⟨TabOK_of tyL_ok, ZOK_of zL_ok, by kernel_rfl, COK_of cL_ok, MOK_of mL_ok, BdOK_of bL_ok, MpOK_of mpL_ok laid_ok⟩
end Go.Proofs.YtplkockghigpdaaDoor


namespace Go.Proofs.YtplkockghigpdaaDoor
open Go.Lg
set_option maxHeartbeats 2000000
set_option maxRecDepth 100000
set_option linter.unusedVariables false
set_option linter.unusedSimpArgs false

/-! ### Trailing zeros -/
theorem tz64_core (x k idx : Nat) (w : World) (hx0 : ((x : Int) == 0) = false)
    (key : IntKind.u64.wrap (bits BinOp.and IntKind.u64 (x : Int) (IntKind.u64.wrap (-(x : Int))) * 285870213051353865) / 288230376151711744 = (idx : Int))
    (hi : idx < 64) (hk : k < 64) (hcell : w.cell? ⟨1, idx, none⟩ = some (.int .u8 k)) :
    Calls Tryd.prog 94 #[.int .u64 x] w fun e w' => e = .returned (.int .i64 k) ∧ w' = w := by
  go_enter Tryd.func94, Tryd.ntmps94
  go_wp2_with (simp only [key])
  go_ret
  exact ⟨rfl, rfl⟩
theorem tz64_zero (w : World) : Calls Tryd.prog 94 #[.int .u64 0] w fun e w' => e = .returned (.int .i64 64) ∧ w' = w := by
  go_enter Tryd.func94, Tryd.ntmps94
  go_wp2
  go_ret
  exact ⟨rfl, rfl⟩
theorem tz64 (x : Nat) (hx : x < 18446744073709551616) (w : World) (hT : TabLies w) : Calls Tryd.prog 94 #[.int .u64 x] w fun e w' => e = .returned (.int .i64 (Lib.ctz 64 x)) ∧ w' = w := by
  by_cases hx0 : x = 0
  · subst hx0
    exact tz64_zero w
  · obtain ⟨hlow, hk⟩ := Lib.lowest_bit 64 x hx0 hx
    obtain ⟨hi, htab⟩ := Lib.deBruijn64_at _ hk
    have hcell := hT _ hi
    rw [htab] at hcell
    exact tz64_core x _ _ w (by simp; omega) (tz64_key x _ hx hx0 hlow) hi hk hcell
theorem tz (x : Nat) (hx : x < 18446744073709551616) (w : World) (hT : TabLies w) : Calls Tryd.prog 69 #[.int .u64 x] w fun e w' => e = .returned (.int .i64 (Lib.ctz 64 x)) ∧ w' = w := by
  go_enter Tryd.func69, Tryd.ntmps69
  go_wp2_with (go_at_call 94; refine (tz64 x hx _ hT).mono ?_; rintro e w' ⟨rfl, rfl⟩)
  go_ret
  exact ⟨rfl, rfl⟩
theorem tz_spec (x : Nat) (hx : x < 18446744073709551616) : FSpec env.P 69 [.int .u64 (x : Int)] (.int .i64 (Lib.ctz 64 x : Nat)) := by
  unfold FSpec
  refine ⟨Tryd.call69, fun w O vs hI hO hsz hargs => ?_⟩
  obtain ⟨v0, rfl⟩ : ∃ v0, vs = #[v0] := by
    obtain ⟨vl⟩ := vs
    match vl, hsz with
    | [a], _ => exact ⟨a, rfl⟩
  have a0 := hargs 0 _ v0 rfl rfl
  simp only [RT, RT1, RC, List.cons.injEq, and_true] at a0
  subst a0
  refine (tz x hx w hI.2).mono ?_
  rintro e w' ⟨rfl, rfl⟩
  exact ⟨_, rfl, Below.refl _ _, [], List.nodup_nil, by simp [RR, RR1, RRc, RC]⟩
end Go.Proofs.YtplkockghigpdaaDoor


namespace Go.Proofs.YtplkockghigpdaaDoor
open Go.Lg
set_option maxHeartbeats 800000
set_option linter.unusedVariables false
set_option linter.unusedSimpArgs false

/-! ### Fractions in their lowest terms -/
def rdc : Nat → Nat → Nat × Nat
  | n, 0 => (n, 0)
  | n, e + 1 => if n % 2 = 0 then rdc (n / 2) e else (n, e + 1)
theorem rdc_even {n e : Nat} (h : n % 2 = 0) : rdc n (e + 1) = rdc (n / 2) e := by rw [rdc, if_pos h]
theorem rdc_odd' {n e : Nat} (h : n % 2 = 1) : rdc n e = (n, e) := by
  cases e with
  | zero => rfl
  | succ e => rw [rdc, if_neg (by omega)]
theorem rdc_two (n e : Nat) : rdc (2 * n) (e + 1) = rdc n e := by
  rw [rdc_even (by omega), Nat.mul_div_cancel_left n (by omega : 0 < 2)]
theorem rdc_mul (n e : Nat) : ∀ j, rdc (n * 2 ^ j) (e + j) = rdc n e
  | 0 => by simp
  | j + 1 => by
    rw [show n * 2 ^ (j + 1) = 2 * (n * 2 ^ j) by rw [Nat.pow_succ, ← Nat.mul_assoc, Nat.mul_comm], show e + (j + 1) = e + j + 1 from rfl, rdc_two, rdc_mul n e j]
theorem rdc_exp : ∀ (e n : Nat), (rdc n e).2 ≤ e
  | 0, n => Nat.le_refl _
  | e + 1, n => by
    rw [rdc]; split
    · exact Nat.le_trans (rdc_exp e _) (by omega)
    · exact Nat.le_refl _
theorem rdc_low : ∀ (e n : Nat), (rdc n e).2 = 0 ∨ (rdc n e).1 % 2 = 1
  | 0, n => .inl rfl
  | e + 1, n => by
    rw [rdc]; split
    · exact rdc_low e _
    · exact .inr (by show n % 2 = 1; omega)
theorem rdc_val : ∀ (e n : Nat), (rdc n e).1 * 2 ^ (e - (rdc n e).2) = n
  | 0, n => by simp [rdc]
  | e + 1, n => by
    rw [rdc]; split
    · have h := rdc_val e (n / 2)
      have l := rdc_exp e (n / 2)
      rw [Nat.succ_sub l, Nat.pow_succ, ← Nat.mul_assoc, h]; omega
    · simp
theorem rdc_fix {n e : Nat} : rdc n e = (n, e) ↔ e = 0 ∨ n % 2 = 1 := by
  constructor
  · intro h
    have := rdc_low e n
    rw [h] at this; exact this
  · rintro (rfl | h)
    · rfl
    · exact rdc_odd' h
theorem rdc_zero : ∀ e, rdc 0 e = (0, 0)
  | 0 => rfl
  | e + 1 => by rw [rdc, if_pos rfl]; exact rdc_zero e
/-- A fraction in parts of 1 / 2^30. -/
def dv (d : Nat × Nat) : Nat := d.1 * 2 ^ (30 - d.2)
/-- So many parts in lowest terms. -/
def rd (v : Nat) : Nat × Nat := rdc v 30
theorem rd_dv {d : Nat × Nat} (h : d.2 ≤ 30) : rd (dv d) = rdc d.1 d.2 := by
  unfold rd dv
  have := rdc_mul d.1 d.2 (30 - d.2)
  rwa [Nat.add_sub_cancel' h] at this
theorem dv_rd (v : Nat) : dv (rd v) = v := rdc_val 30 v
end Go.Proofs.YtplkockghigpdaaDoor


namespace Go.Proofs.YtplkockghigpdaaDoor
open Go.Lg
set_option maxHeartbeats 400000
set_option linter.unusedVariables false
set_option linter.unusedSimpArgs false

def low (c : UInt8) : Bool := !(ltI (c.toNat : Int) 97 || ltI 122 (c.toNat : Int))
def lowTo (s : ByteArray) (k : Nat) : Prop := ∀ j (h : j < s.size), j < k → low s[j] = true
def allLow (s : ByteArray) : Bool := s.data.toList.all low
theorem lowTo.succ {s : ByteArray} {k : Nat} (h : lowTo s k) (hk : k < s.size) (hl : low s[k] = true) : lowTo s (k + 1) := by
  intro j hj hjk
  by_cases e : j = k
  · subst e; exact hl
  · exact h j hj (by omega)
theorem lowTo.all {s : ByteArray} {k : Nat} (h : lowTo s k) (hk : s.size ≤ k) : allLow s = true := by
  unfold allLow
  rw [List.all_eq_true]
  intro c hc
  obtain ⟨j, hj, rfl⟩ := List.mem_iff_getElem.1 hc
  have hj' : j < s.size := by simpa using hj
  exact h j hj' (by omega)
end Go.Proofs.YtplkockghigpdaaDoor


namespace Go.Proofs.YtplkockghigpdaaDoor
open Go.Lg
set_option maxHeartbeats 3200000
set_option maxRecDepth 10000
set_option linter.unusedVariables false
set_option linter.unusedSimpArgs false

/-! ### Dyads: lowest terms on both sides -/
theorem rdc_ctz : ∀ (f n e : Nat), 0 < n → n < 2 ^ f → rdc n e = (n / 2 ^ min (Lib.ctzFrom f n) e, e - min (Lib.ctzFrom f n) e)
  | 0, n, e, h0, h => by simp at h; omega
  | f + 1, n, e, h0, h => by
    unfold Lib.ctzFrom
    split
    · rename_i h1
      rw [rdc_odd' h1]; simp
    · rename_i h1
      have ih := rdc_ctz f (n / 2)
      cases e with
      | zero => simp [rdc]
      | succ e =>
        rw [rdc_even (by omega), ih e (by omega) (by rw [Nat.pow_succ] at h; omega)]
        have em : min (1 + Lib.ctzFrom f (n / 2)) (e + 1) = min (Lib.ctzFrom f (n / 2)) e + 1 := by omega
        rw [em, Nat.pow_succ, Nat.div_div_eq_div_mul, Nat.mul_comm]
        congr 1; omega
theorem rdc_tz (n e : Nat) (h : n < 2 ^ 64) (he : e ≤ 64) : rdc n e = (n / 2 ^ min (Lib.ctz 64 n) e, e - min (Lib.ctz 64 n) e) := by
  unfold Lib.ctz
  by_cases h0 : n = 0
  · subst h0
    rw [if_pos rfl, rdc_zero, Nat.min_eq_right he]; simp
  · rw [if_neg h0]; exact rdc_ctz 64 n e (by omega) h
def dyLV (d : Nat × Nat) : LV := .st [.int .i64 (d.1 : Int), .int .i64 (d.2 : Int)]
theorem lowest_spec (n e : Nat) (hn : n < 9223372036854775808) (he : e ≤ 30) : FSpec env.P 38 [.int .i64 (n : Int), .int .i64 (e : Int)] (dyLV (rdc n e)) := by
  refine FSpec_of_code env_ok (fn := Tryd.f38) Tryd.func38 rfl Tryd.call38 _ _ ?_
  have hz := tz_spec n (by omega)
  have hr := rdc_tz n e (by omega) (by omega)
  have hm : minI (Lib.ctz 64 n : Int) (e : Int) = ((min (Lib.ctz 64 n) e : Nat) : Int) := by unfold minI; split <;> omega
  have wu : IntKind.u64.wrap (n : Int) = (n : Int) := IntWalk.u64_in n ⟨by omega, by omega⟩
  generalize Lib.ctz 64 n = c at hz hr hm
  have hmm : min c e ≤ 30 := by omega
  have hle : min c e ≤ e := Nat.min_le_right _ _
  generalize min c e = t at hr hm hmm hle
  have hs : shrI .i64 (n : Int) (t : Int) = ((n / 2 ^ t : Nat) : Int) := by
    unfold shrI
    rw [show min (Int.toNat (t : Int)) IntKind.i64.bits = t by rw [Int.toNat_natCast]; exact Nat.min_eq_left (by show t ≤ 64; omega)]
    rw [Int.fdiv_eq_ediv_of_nonneg _ (by exact Int.le_of_lt (Int.pow_pos (by omega)))]
    norm_cast
  have hw : IntKind.i64.wrap ((e : Int) - (t : Int)) = ((e - t : Nat) : Int) := by rw [wrap64 (by omega) (by omega)]; omega
  have hwc : IntKind.u64.wrap (n : Int) = (n : Int) := wu
  rw [hr]
  ((repeat ((conv => whnf); first | refine brT ?_ | refine brF ?_)); conv => whnf)
  rw [hwc]
  refine ⟨_, hz, ?_⟩
  ((repeat ((conv => whnf); first | refine brT ?_ | refine brF ?_)); conv => whnf)
  rw [hm]
  ((repeat ((conv => whnf); first | refine brT ?_ | refine brF ?_)); conv => whnf)
  refine ⟨by omega, ?_⟩
  ((repeat ((conv => whnf); first | refine brT ?_ | refine brF ?_)); conv => whnf)
  rw [hs, hw]
  ((repeat ((conv => whnf); first | refine brT ?_ | refine brF ?_)); conv => whnf)
  exact ⟨_, rfl, rfl, by simp [dyLV, exW, exsW]⟩
def dyOK (n e : Int) : Bool := (leI 0 n && leI n 1073741824) && (leI 0 e && leI e 30)
theorem dyOK_t {n e : Int} : dyOK n e = true ↔ (0 ≤ n ∧ n ≤ 1073741824) ∧ (0 ≤ e ∧ e ≤ 30) := by
  unfold dyOK; rw [Bool.and_eq_true_iff, Bool.and_eq_true_iff, Bool.and_eq_true_iff, leI_t, leI_t, leI_t, leI_t]
def dyD (n e : Int) : Nat × Nat := match dyOK n e with | true => rdc n.toNat e.toNat | false => (0, 0)
theorem dyD_no {n e : Int} (h : dyOK n e = false) : dyD n e = (0, 0) := by unfold dyD; rw [h]
theorem dyD_yes {n e : Int} (h : dyOK n e = true) : dyD n e = rdc n.toNat e.toNat := by unfold dyD; rw [h]
theorem dyOK_no {n e : Int} (h : ¬((0 ≤ n ∧ n ≤ 1073741824) ∧ (0 ≤ e ∧ e ≤ 30))) : dyOK n e = false := by
  cases hc : dyOK n e with
  | true => exact absurd (dyOK_t.1 hc) h
  | false => rfl
theorem dyadOf_impl (n e : Int) : FSpec env.P 13 [.int .i64 n, .int .i64 e] (.tup [dyLV (dyD n e), .bool (dyOK n e)]) := by
  refine FSpec_of_code env_ok (fn := Tryd.f13) Tryd.func13 rfl Tryd.call13 _ _ ?_
  ((repeat ((conv => whnf); first | refine brT ?_ | refine brF ?_)); conv => whnf)
  (refine ⟨fun c1 => ?_, fun c1 => ?_⟩ <;> rw [c1])
  · have h := dyOK_no (n := n) (e := e) (by rw [ltI_t] at c1; omega)
    rw [dyD_no h, h]
    ((repeat ((conv => whnf); first | refine brT ?_ | refine brF ?_)); conv => whnf)
    (refine ⟨_, rfl, rfl, ?_⟩; unfold dyLV; repeat (first | exact List.nodup_nil | refine ⟨rfl, ?_⟩))
  ((repeat ((conv => whnf); first | refine brT ?_ | refine brF ?_)); conv => whnf)
  (refine ⟨fun c2 => ?_, fun c2 => ?_⟩ <;> rw [c2])
  · have h := dyOK_no (n := n) (e := e) (by rw [ltI_t] at c2; omega)
    rw [dyD_no h, h]
    ((repeat ((conv => whnf); first | refine brT ?_ | refine brF ?_)); conv => whnf)
    (refine ⟨_, rfl, rfl, ?_⟩; unfold dyLV; repeat (first | exact List.nodup_nil | refine ⟨rfl, ?_⟩))
  ((repeat ((conv => whnf); first | refine brT ?_ | refine brF ?_)); conv => whnf)
  (refine ⟨fun c3 => ?_, fun c3 => ?_⟩ <;> rw [c3])
  · have h := dyOK_no (n := n) (e := e) (by rw [ltI_t] at c3; omega)
    rw [dyD_no h, h]
    ((repeat ((conv => whnf); first | refine brT ?_ | refine brF ?_)); conv => whnf)
    (refine ⟨_, rfl, rfl, ?_⟩; unfold dyLV; repeat (first | exact List.nodup_nil | refine ⟨rfl, ?_⟩))
  ((repeat ((conv => whnf); first | refine brT ?_ | refine brF ?_)); conv => whnf)
  (refine ⟨fun c4 => ?_, fun c4 => ?_⟩ <;> rw [c4])
  · have h := dyOK_no (n := n) (e := e) (by rw [ltI_t] at c4; omega)
    rw [dyD_no h, h]
    ((repeat ((conv => whnf); first | refine brT ?_ | refine brF ?_)); conv => whnf)
    (refine ⟨_, rfl, rfl, ?_⟩; unfold dyLV; repeat (first | exact List.nodup_nil | refine ⟨rfl, ?_⟩))
  rw [ltI_f] at c1 c2 c3 c4
  have h := dyOK_t.2 (show (0 ≤ n ∧ n ≤ 1073741824) ∧ (0 ≤ e ∧ e ≤ 30) by omega)
  rw [dyD_yes h, h]
  have hl := lowest_spec n.toNat e.toNat (by omega) (by omega)
  rw [Int.toNat_of_nonneg (by omega), Int.toNat_of_nonneg (by omega)] at hl
  generalize rdc n.toNat e.toNat = d at hl
  ((repeat ((conv => whnf); first | refine brT ?_ | refine brF ?_)); conv => whnf)
  refine ⟨_, hl, ?_⟩
  ((repeat ((conv => whnf); first | refine brT ?_ | refine brF ?_)); conv => whnf)
  (refine ⟨_, rfl, rfl, ?_⟩; unfold dyLV; repeat (first | exact List.nodup_nil | refine ⟨rfl, ?_⟩))
def idLV (d : Int × Int) : LV := .st [.int .i64 d.1, .int .i64 d.2]
end Go.Proofs.YtplkockghigpdaaDoor


namespace Go.Proofs.YtplkockghigpdaaDoor
open Go.Lg
set_option maxHeartbeats 3200000
set_option maxRecDepth 10000
set_option linter.unusedVariables false
set_option linter.unusedSimpArgs false

/-! ### Adding dyads -/
def vd (n e : Int) : Bool := dyOK n e && (eqI e 0 || eqI (Int.tmod n 2) 1)
theorem vd_nat {n e : Int} (h : vd n e = true) : ∃ a b : Nat, n = a ∧ e = b ∧ a ≤ 1073741824 ∧ b ≤ 30 ∧ rdc a b = (a, b) := by
  unfold vd at h
  obtain ⟨h1, h2⟩ := Bool.and_eq_true_iff.1 h
  rw [dyOK_t] at h1
  refine ⟨n.toNat, e.toNat, by omega, by omega, by omega, by omega, rdc_fix.2 ?_⟩
  rcases Bool.or_eq_true_iff.1 h2 with h3 | h3
  · rw [eqI_t] at h3; left; omega
  · rw [eqI_t] at h3; right
    have : Int.tmod n 2 = n % 2 := by rw [Int.tmod_eq_emod_of_nonneg (by omega)]
    omega
theorem vd_same (n e : Int) : (dyOK n e && (eqI n ((dyD n e).1 : Int) && eqI e ((dyD n e).2 : Int))) = vd n e := by
  unfold vd
  cases h : dyOK n e with
  | false => rfl
  | true =>
    rw [dyD_yes h]
    rw [dyOK_t] at h
    obtain ⟨a, rfl⟩ : ∃ a : Nat, n = a := ⟨n.toNat, by omega⟩
    obtain ⟨b, rfl⟩ : ∃ b : Nat, e = b := ⟨e.toNat, by omega⟩
    simp only [Bool.true_and, Int.toNat_natCast]
    have ht : Int.tmod (a : Int) 2 = ((a % 2 : Nat) : Int) := rfl
    rw [ht]
    rw [Bool.eq_iff_iff, Bool.and_eq_true_iff, Bool.or_eq_true_iff, eqI_t, eqI_t, eqI_t, eqI_t]
    have hf := @rdc_fix a b
    constructor
    · rintro ⟨h1, h2⟩
      have : rdc a b = (a, b) := Prod.ext (by show (rdc a b).1 = a; omega) (by show (rdc a b).2 = b; omega)
      rcases hf.1 this with h | h <;> omega
    · intro h1
      have : rdc a b = (a, b) := hf.2 (by omega)
      rw [this]; exact ⟨rfl, rfl⟩
theorem isDyad_spec (n e : Int) : FSpec env.P 41 [idLV (n, e)] (.bool (vd n e)) := by
  refine FSpec_of_code env_ok (fn := Tryd.f41) Tryd.func41 rfl Tryd.call41 _ _ ?_
  have hD := dyadOf_impl n e
  have hs := vd_same n e
  generalize dyD n e = d at hD hs
  ((repeat ((conv => whnf); first | refine brT ?_ | refine brF ?_)); conv => whnf)
  refine ⟨_, hD, ?_⟩
  ((repeat ((conv => whnf); first | refine brT ?_ | refine brF ?_)); conv => whnf)
  (refine ⟨fun c1 => ?_, fun c1 => ?_⟩ <;> rw [c1])
  · ((repeat ((conv => whnf); first | refine brT ?_ | refine brF ?_)); conv => whnf)
    rw [c1] at hs
    refine fin ?_
    rw [← hs]
    simp [eq1, eqAll]
  · ((repeat ((conv => whnf); first | refine brT ?_ | refine brF ?_)); conv => whnf)
    rw [c1] at hs
    exact fin hs
theorem shl_nat (a t : Nat) (h : a * 2 ^ t < 9223372036854775808) (ht : t ≤ 30) : shlI .i64 (a : Int) (t : Int) = ((a * 2 ^ t : Nat) : Int) := by
  unfold shlI
  rw [show min (Int.toNat (t : Int)) IntKind.i64.bits = t by rw [Int.toNat_natCast]; exact Nat.min_eq_left (by show t ≤ 64; omega)]
  have e : (a : Int) * 2 ^ t = ((a * 2 ^ t : Nat) : Int) := by push_cast; rfl
  rw [e]
  exact wrap64 (by omega) (by omega)
theorem dv_small {a b : Nat} (ha : a ≤ 1073741824) : dv (a, b) ≤ 1152921504606846976 := by
  unfold dv
  have h1 : 2 ^ (30 - b) ≤ 2 ^ 30 := Nat.pow_le_pow_right (by omega) (by omega)
  have := Nat.mul_le_mul ha h1
  exact Nat.le_trans this (by decide)
theorem parts_spec (a b : Nat) (ha : a ≤ 1073741824) (hb : b ≤ 30) : FSpec env.P 42 [idLV (a, b)] (.int .i64 (dv (a, b) : Nat)) := by
  refine FSpec_of_code env_ok (fn := Tryd.f42) Tryd.func42 rfl Tryd.call42 _ _ ?_
  have hd := dv_small (b := b) ha
  have hs := shl_nat a (30 - b) (by unfold dv at hd; exact Nat.lt_of_le_of_lt hd (by omega)) (by omega)
  have hw : IntKind.i64.wrap (30 - (b : Int)) = ((30 - b : Nat) : Int) := by rw [wrap64 (by omega) (by omega)]; omega
  ((repeat ((conv => whnf); first | refine brT ?_ | refine brF ?_)); conv => whnf)
  rw [hw]
  refine ⟨by omega, ?_⟩
  ((repeat ((conv => whnf); first | refine brT ?_ | refine brF ?_)); conv => whnf)
  rw [hs]
  exact ⟨rfl, rfl, List.nodup_nil⟩
theorem dv_add (x y e : Nat) : dv (x + y, e) = dv (x, e) + dv (y, e) := by unfold dv; exact Nat.add_mul _ _ _
end Go.Proofs.YtplkockghigpdaaDoor


namespace Go.Proofs.YtplkockghigpdaaDoor
open Go.Lg
set_option maxHeartbeats 3200000
set_option maxRecDepth 10000
set_option linter.unusedVariables false
set_option linter.unusedSimpArgs false

theorem weak_idD {n0 : Nat} {ts : List LV} {H : List Blk} (h1 : wk ts ts) (h2 : wkH n0 H H) (h3 : (scs (below H.length) ts && H.all (scB (below H.length))) = true) : Weak n0 ts H ts H := by
  simp only [Bool.and_eq_true] at h3
  exact .inl ⟨h1, h2, h3.1, h3.2⟩
def adS (x y : Int × Int) : Nat × Nat := rd (dv (x.1.toNat, x.2.toNat) + dv (y.1.toNat, y.2.toNat))
def adB (x y : Int × Int) : Bool := vd x.1 x.2 && vd y.1 y.2 && leI (adS x y).1 1073741824
def adD (x y : Int × Int) : Nat × Nat := match adB x y with | true => adS x y | false => (0, 0)
theorem adD_no {x y : Int × Int} (h : adB x y = false) : adD x y = (0, 0) := by unfold adD; rw [h]
theorem adD_yes {x y : Int × Int} (h : adB x y = true) : adD x y = adS x y := by unfold adD; rw [h]
theorem addD_impl (x y : Int × Int) : FSpec env.P 17 [idLV x, idLV y] (.tup [dyLV (adD x y), .bool (adB x y)]) := by
  refine FSpec_of_code env_ok (fn := Tryd.f17) Tryd.func17 rfl Tryd.call17 _ _ ?_
  obtain ⟨a, b⟩ := x
  obtain ⟨c, d⟩ := y
  have v1 := isDyad_spec a b
  have v2 := isDyad_spec c d
  cases h1 : vd a b with
  | false =>
    have hB : adB (a, b) (c, d) = false := by unfold adB; rw [show vd (a, b).1 (a, b).2 = false from h1]; rfl
    rw [adD_no hB, hB]
    rw [h1] at v1
    ((repeat ((conv => whnf); first | refine brT ?_ | refine brF ?_)); conv => whnf)
    refine ⟨_, v1, ?_⟩
    ((repeat ((conv => whnf); first | refine brT ?_ | refine brF ?_)); conv => whnf)
    rw [show notB false = true by simp [notB]]
    ((repeat ((conv => whnf); first | refine brT ?_ | refine brF ?_)); conv => whnf)
    (refine ⟨_, rfl, rfl, ?_⟩; unfold dyLV; repeat (first | exact List.nodup_nil | refine ⟨rfl, ?_⟩))
  | true =>
  cases h2 : vd c d with
  | false =>
    have hB : adB (a, b) (c, d) = false := by unfold adB; rw [show vd (c, d).1 (c, d).2 = false from h2]; simp
    rw [adD_no hB, hB]
    rw [h1] at v1
    rw [h2] at v2
    ((repeat ((conv => whnf); first | refine brT ?_ | refine brF ?_)); conv => whnf)
    refine ⟨_, v1, ?_⟩
    ((repeat ((conv => whnf); first | refine brT ?_ | refine brF ?_)); conv => whnf)
    rw [show notB true = false by simp [notB]]
    ((repeat ((conv => whnf); first | refine brT ?_ | refine brF ?_)); conv => whnf)
    refine ⟨_, v2, ?_⟩
    ((repeat ((conv => whnf); first | refine brT ?_ | refine brF ?_)); conv => whnf)
    rw [show notB false = true by simp [notB]]
    ((repeat ((conv => whnf); first | refine brT ?_ | refine brF ?_)); conv => whnf)
    (refine ⟨_, rfl, rfl, ?_⟩; unfold dyLV; repeat (first | exact List.nodup_nil | refine ⟨rfl, ?_⟩))
  | true =>
  have hB : adB (a, b) (c, d) = leI (adS (a, b) (c, d)).1 1073741824 := by unfold adB; rw [show vd (a, b).1 (a, b).2 = true from h1, show vd (c, d).1 (c, d).2 = true from h2]; rfl
  rw [h1] at v1
  rw [h2] at v2
  obtain ⟨a, b, rfl, rfl, a1, b1, _⟩ := vd_nat h1
  obtain ⟨c, d, rfl, rfl, c1, d1, _⟩ := vd_nat h2
  have hS : adS ((a : Int), (b : Int)) ((c : Int), (d : Int)) = rd (dv (a, b) + dv (c, d)) := rfl
  rw [hS] at hB
  have s1 := dv_small (b := b) a1
  have s2 := dv_small (b := d) c1
  have p1 := parts_spec a b a1 b1
  have p2 := parts_spec c d c1 d1
  have hw : IntKind.i64.wrap ((dv (a, b) : Int) + (dv (c, d) : Int)) = ((dv (a, b) + dv (c, d) : Nat) : Int) := by rw [wrap64 (by omega) (by omega)]; omega
  have hl := lowest_spec (dv (a, b) + dv (c, d)) 30 (by omega) (Nat.le_refl _)
  have hlr : rdc (dv (a, b) + dv (c, d)) 30 = rd (dv (a, b) + dv (c, d)) := rfl
  rw [hlr] at hl
  have hD : ∀ B, adB ((a : Int), (b : Int)) ((c : Int), (d : Int)) = B → adD ((a : Int), (b : Int)) ((c : Int), (d : Int)) = (match B with | true => rd (dv (a, b) + dv (c, d)) | false => (0, 0)) := fun B h => by unfold adD; rw [h, hS]
  rw [hD _ hB, hB]
  generalize rd (dv (a, b) + dv (c, d)) = s at hl
  ((repeat ((conv => whnf); first | refine brT ?_ | refine brF ?_)); conv => whnf)
  refine ⟨_, v1, ?_⟩
  ((repeat ((conv => whnf); first | refine brT ?_ | refine brF ?_)); conv => whnf)
  rw [show notB true = false by simp [notB]]
  ((repeat ((conv => whnf); first | refine brT ?_ | refine brF ?_)); conv => whnf)
  refine ⟨_, v2, ?_⟩
  ((repeat ((conv => whnf); first | refine brT ?_ | refine brF ?_)); conv => whnf)
  rw [show notB true = false by simp [notB]]
  ((repeat ((conv => whnf); first | refine brT ?_ | refine brF ?_)); conv => whnf)
  refine ⟨false, 0, 0, 0, [0, 2], (.alt 1 (.alt 3 (.alt 4 (.alt 5 (.one 6 (.one 7 .done)) (.one 6 (.one 5 (.one 7 .done)))) (.one 6 (.one 4 (.one 5 (.one 7 .done))))) (.one 6 (.one 3 (.one 4 (.one 5 (.one 7 .done)))))) (.one 6 (.one 1 (.one 3 (.one 4 (.one 5 (.one 7 .done))))))), by kernel_rfl, ?_⟩
  ((repeat ((conv => whnf); first | refine brT ?_ | refine brF ?_)); conv => whnf)
  apply Exists.intro; apply Exists.intro
  refine And.intro ?_ ?_
  · ((repeat ((conv => whnf); first | refine brT ?_ | refine brF ?_)); conv => whnf)
    refine And.intro ?_ ?_
    · ((repeat ((conv => whnf); first | refine brT ?_ | refine brF ?_)); conv => whnf)
      refine ⟨_, p1, ?_⟩
      ((repeat ((conv => whnf); first | refine brT ?_ | refine brF ?_)); conv => whnf)
      refine And.intro ?_ ?_
      · ((repeat ((conv => whnf); first | refine brT ?_ | refine brF ?_)); conv => whnf)
        refine ⟨_, p2, ?_⟩
        ((repeat ((conv => whnf); first | refine brT ?_ | refine brF ?_)); conv => whnf)
        refine And.intro ?_ ?_
        · ((repeat ((conv => whnf); first | refine brT ?_ | refine brF ?_)); conv => whnf)
          rw [hw]
          ((repeat ((conv => whnf); first | refine brT ?_ | refine brF ?_)); conv => whnf)
          refine And.intro ?_ ?_
          · ((repeat ((conv => whnf); first | refine brT ?_ | refine brF ?_)); conv => whnf)
            refine ⟨_, hl, ?_⟩
            ((repeat ((conv => whnf); first | refine brT ?_ | refine brF ?_)); conv => whnf)
            refine weak_idD ?_ ?_ rfl
            · ((repeat ((conv => whnf); refine ⟨rfl, ?_⟩)); trivial)
            · exact ⟨rfl, rfl, rfl, rfl, trivial⟩
          · ((repeat ((conv => whnf); first | refine brT ?_ | refine brF ?_)); conv => whnf)
            refine ⟨_, hl, ?_⟩
            ((repeat ((conv => whnf); first | refine brT ?_ | refine brF ?_)); conv => whnf)
            refine weak_idD ?_ ?_ rfl
            · ((repeat ((conv => whnf); refine ⟨rfl, ?_⟩)); trivial)
            · exact ⟨rfl, rfl, rfl, rfl, trivial⟩
        · ((repeat ((conv => whnf); first | refine brT ?_ | refine brF ?_)); conv => whnf)
          rw [hw]
          ((repeat ((conv => whnf); first | refine brT ?_ | refine brF ?_)); conv => whnf)
          refine ⟨_, hl, ?_⟩
          ((repeat ((conv => whnf); first | refine brT ?_ | refine brF ?_)); conv => whnf)
          refine weak_idD ?_ ?_ rfl
          · ((repeat ((conv => whnf); refine ⟨rfl, ?_⟩)); trivial)
          · exact ⟨rfl, rfl, rfl, rfl, trivial⟩
      · ((repeat ((conv => whnf); first | refine brT ?_ | refine brF ?_)); conv => whnf)
        refine ⟨_, p2, ?_⟩
        ((repeat ((conv => whnf); first | refine brT ?_ | refine brF ?_)); conv => whnf)
        rw [hw]
        ((repeat ((conv => whnf); first | refine brT ?_ | refine brF ?_)); conv => whnf)
        refine ⟨_, hl, ?_⟩
        ((repeat ((conv => whnf); first | refine brT ?_ | refine brF ?_)); conv => whnf)
        refine weak_idD ?_ ?_ rfl
        · ((repeat ((conv => whnf); refine ⟨rfl, ?_⟩)); trivial)
        · exact ⟨rfl, rfl, rfl, rfl, trivial⟩
    · ((repeat ((conv => whnf); first | refine brT ?_ | refine brF ?_)); conv => whnf)
      refine ⟨_, p1, ?_⟩
      ((repeat ((conv => whnf); first | refine brT ?_ | refine brF ?_)); conv => whnf)
      refine ⟨_, p2, ?_⟩
      ((repeat ((conv => whnf); first | refine brT ?_ | refine brF ?_)); conv => whnf)
      rw [hw]
      ((repeat ((conv => whnf); first | refine brT ?_ | refine brF ?_)); conv => whnf)
      refine ⟨_, hl, ?_⟩
      ((repeat ((conv => whnf); first | refine brT ?_ | refine brF ?_)); conv => whnf)
      refine weak_idD ?_ ?_ rfl
      · ((repeat ((conv => whnf); refine ⟨rfl, ?_⟩)); trivial)
      · exact ⟨rfl, rfl, rfl, rfl, trivial⟩
  ((repeat ((conv => whnf); first | refine brT ?_ | refine brF ?_)); conv => whnf)
  (refine ⟨fun g => ?_, fun g => ?_⟩ <;> rw [g])
  · have hle : leI (s.1 : Int) 1073741824 = false := by rw [ltI_t] at g; rw [leI_f]; exact g
    rw [hle]
    ((repeat ((conv => whnf); first | refine brT ?_ | refine brF ?_)); conv => whnf)
    (refine ⟨_, rfl, rfl, ?_⟩; unfold dyLV; repeat (first | exact List.nodup_nil | refine ⟨rfl, ?_⟩))
  · have hle : leI (s.1 : Int) 1073741824 = true := by rw [ltI_f] at g; rw [leI_t]; exact g
    rw [hle]
    ((repeat ((conv => whnf); first | refine brT ?_ | refine brF ?_)); conv => whnf)
    (refine ⟨_, rfl, rfl, ?_⟩; unfold dyLV; repeat (first | exact List.nodup_nil | refine ⟨rfl, ?_⟩))
end Go.Proofs.YtplkockghigpdaaDoor


namespace Go.Proofs.YtplkockghigpdaaDoor
open Go.Lg
set_option maxHeartbeats 3200000
set_option maxRecDepth 10000
set_option linter.unusedVariables false
set_option linter.unusedSimpArgs false

/-! ### Adding: order and grouping do not matter -/
def atN (bs : List Nat) (i : Nat) : Nat := match bs[i]? with | some b => b | none => (i * 37 + bs.length * 11) % 256
theorem atN_lt {bs : List Nat} (hb : ∀ b ∈ bs, b < 256) (i : Nat) : atN bs i < 256 := by
  unfold atN
  split
  · rename_i b h; exact hb b (List.mem_of_getElem? h)
  · exact Nat.mod_lt _ (by omega)
theorem atN_spec (bs : List Nat) (i : Nat) (hb : ∀ b ∈ bs, b < 256) (hl : bs.length ≤ 1048576) (hi : i ≤ 100) : FSpec env.P 29 [.sl (bs.map byLV), .int .i64 (i : Int)] (.int .i64 (atN bs i : Nat)) := by
  refine FSpec_of_code env_ok (fn := Tryd.f29) Tryd.func29 rfl Tryd.call29 _ _ ?_
  have hL : (bs.map byLV).length = bs.length := List.length_map ..
  unfold atN
  ((repeat ((conv => whnf); first | refine brT ?_ | refine brF ?_)); conv => whnf)
  intro hm
  rw [hL]
  ((repeat ((conv => whnf); first | refine brT ?_ | refine brF ?_)); conv => whnf)
  (refine ⟨fun h => ?_, fun h => ?_⟩ <;> rw [h])
  · have hlt : i < bs.length := by rw [ltI_t] at h; omega
    have hg : bs[i]? = some bs[i] := List.getElem?_eq_getElem hlt
    have hg2 : (bs.map byLV)[i]? = some (byLV bs[i]) := by rw [List.getElem?_map, hg]; rfl
    have hb' := hb bs[i] (List.getElem_mem hlt)
    rw [hg]
    generalize bs[i] = b at hg2 hb'
    ((repeat ((conv => whnf); first | refine brT ?_ | refine brF ?_)); conv => whnf)
    refine ⟨i, byLV b, rfl, hg2, rfl, ?_⟩
    ((repeat ((conv => whnf); first | refine brT ?_ | refine brF ?_)); conv => whnf)
    exact ⟨rfl, wrap64 (by omega) (by omega), List.nodup_nil⟩
  · have hge : bs.length ≤ i := by rw [ltI_f] at h; omega
    have hg : bs[i]? = none := List.getElem?_eq_none hge
    have w1 : IntKind.i64.wrap ((i : Int) * 37) = ((i * 37 : Nat) : Int) := by rw [wrap64 (by omega) (by omega)]; omega
    have w2 : IntKind.i64.wrap ((bs.length : Int) * 11) = ((bs.length * 11 : Nat) : Int) := by rw [wrap64 (by omega) (by omega)]; omega
    have w3 : IntKind.i64.wrap (((i * 37 : Nat) : Int) + ((bs.length * 11 : Nat) : Int)) = ((i * 37 + bs.length * 11 : Nat) : Int) := by rw [wrap64 (by omega) (by omega)]; omega
    have w4 : Int.tmod ((i * 37 + bs.length * 11 : Nat) : Int) 256 = (((i * 37 + bs.length * 11) % 256 : Nat) : Int) := rfl
    rw [hg]
    ((repeat ((conv => whnf); first | refine brT ?_ | refine brF ?_)); conv => whnf)
    rw [w1]
    intro _
    rw [hL]
    ((repeat ((conv => whnf); first | refine brT ?_ | refine brF ?_)); conv => whnf)
    rw [w2, w3]
    refine ⟨by decide, ?_⟩
    ((repeat ((conv => whnf); first | refine brT ?_ | refine brF ?_)); conv => whnf)
    rw [w4]
    exact ⟨rfl, rfl, List.nodup_nil⟩
def dkN (bs : List Nat) (k : Nat) : Nat := atN bs (2 * k) + atN bs (2 * k + 1)
def dkE (bs : List Nat) (k : Nat) : Nat := atN bs (k + 7) % 8
def dk (bs : List Nat) (k : Nat) : Nat × Nat := rdc (dkN bs k) (dkE bs k)
theorem dkN_le {bs : List Nat} (hb : ∀ b ∈ bs, b < 256) (k : Nat) : dkN bs k ≤ 510 := by
  have := atN_lt hb (2 * k); have := atN_lt hb (2 * k + 1); unfold dkN; omega
theorem dkE_le (bs : List Nat) (k : Nat) : dkE bs k ≤ 7 := by unfold dkE; omega
/-- A fraction with at most seven binary places, and not much greater than the least of them times n. -/
def fine (n : Nat) (d : Nat × Nat) : Prop := d.2 ≤ 7 ∧ (d.2 = 0 ∨ d.1 % 2 = 1) ∧ ∃ s, s ≤ n * 128 ∧ dv d = dv (s, 7)
theorem fine_rd {n s v : Nat} (hs : s ≤ n * 128) (hv : v = dv (s, 7)) : fine n (rd v) := by
  have h : rd v = rdc s 7 := by rw [hv]; exact rd_dv (d := (s, 7)) (show 7 ≤ 30 by omega)
  refine ⟨by rw [h]; exact rdc_exp 7 s, ?_, s, hs, by rw [dv_rd]; exact hv⟩
  rw [h]; exact rdc_low 7 s
theorem fine_dk {bs : List Nat} (hb : ∀ b ∈ bs, b < 256) (k : Nat) : fine 510 (dk bs k) := by
  have h1 := dkN_le hb k
  have h2 := dkE_le bs k
  have e : dk bs k = rd (dv (dkN bs k, dkE bs k)) := (rd_dv (d := (dkN bs k, dkE bs k)) (show dkE bs k ≤ 30 by omega)).symm
  rw [e]
  refine fine_rd (s := dkN bs k * 2 ^ (7 - dkE bs k)) ?_ ?_
  · refine Nat.mul_le_mul h1 ?_
    exact Nat.le_trans (Nat.pow_le_pow_right (by omega) (show 7 - dkE bs k ≤ 7 by omega)) (by decide)
  · unfold dv
    show dkN bs k * 2 ^ (30 - dkE bs k) = dkN bs k * 2 ^ (7 - dkE bs k) * 2 ^ (30 - 7)
    rw [Nat.mul_assoc, ← Nat.pow_add, show 7 - dkE bs k + (30 - 7) = 30 - dkE bs k by omega]
theorem fine_num {n : Nat} {d : Nat × Nat} (h : fine n d) (hn : n ≤ 1000000) : d.1 ≤ 128000000 := by
  obtain ⟨h1, h2, s, hs, he⟩ := h
  have : d.1 * 2 ^ 23 ≤ s * 2 ^ 23 := by
    have e : dv (s, 7) = s * 2 ^ 23 := rfl
    rw [← e, ← he]
    unfold dv
    exact Nat.mul_le_mul_left _ (Nat.pow_le_pow_right (by omega) (by omega))
  have := Nat.le_of_mul_le_mul_right this (by decide)
  omega
def cI (d : Nat × Nat) : Int × Int := ((d.1 : Int), (d.2 : Int))
theorem fine_vd {n : Nat} {d : Nat × Nat} (h : fine n d) (hn : n ≤ 1000000) : vd (cI d).1 (cI d).2 = true := by
  have h3 := fine_num h hn
  obtain ⟨h1, h2, _⟩ := h
  unfold vd
  rw [dyOK_t.2 ⟨⟨by show (0 : Int) ≤ (d.1 : Int); omega, by show (d.1 : Int) ≤ _; omega⟩, ⟨by show (0 : Int) ≤ (d.2 : Int); omega, by show (d.2 : Int) ≤ _; omega⟩⟩, Bool.true_and, Bool.or_eq_true_iff, eqI_t, eqI_t]
  rcases h2 with h | h
  · left; show (d.2 : Int) = 0; omega
  · right; show ((d.1 % 2 : Nat) : Int) = 1; omega
theorem adS_nat (x y : Nat × Nat) : adS (cI x) (cI y) = rd (dv x + dv y) := rfl
theorem fine_add {n m : Nat} {x y : Nat × Nat} (hx : fine n x) (hy : fine m y) (hn : n + m ≤ 1000000) : adB (cI x) (cI y) = true ∧ adD (cI x) (cI y) = rd (dv x + dv y) ∧ fine (n + m) (rd (dv x + dv y)) := by
  have v1 := fine_vd hx (by omega)
  have v2 := fine_vd hy (by omega)
  obtain ⟨_, _, s, hs, es⟩ := hx
  obtain ⟨_, _, t, ht, et⟩ := hy
  have hf : fine (n + m) (rd (dv x + dv y)) := fine_rd (s := s + t) (by rw [Nat.add_mul]; omega) (by rw [es, et, dv_add])
  have hB : adB (cI x) (cI y) = true := by
    unfold adB
    rw [v1, v2, adS_nat, Bool.true_and, Bool.true_and, leI_t]
    have := fine_num hf hn
    omega
  exact ⟨hB, adD_yes hB, hf⟩
theorem fine_self {n : Nat} {d : Nat × Nat} (h : fine n d) : rd (dv d) = d := by
  obtain ⟨h1, h2, _⟩ := h
  rw [rd_dv (by omega)]
  exact rdc_fix.2 h2
theorem fine_zero : fine 0 (0, 0) := ⟨by decide, .inl rfl, 0, by decide, rfl⟩
def dyRow (bs : List Nat) (k : Nat) : List LV := (List.range k).map fun i => dyLV (dk bs i)
theorem dyRow_succ (bs : List Nat) (k : Nat) : dyRow bs k ++ [dyLV (dk bs k)] = dyRow bs (k + 1) := by unfold dyRow; rw [List.range_succ, List.map_append]; rfl
theorem dyRow_len (bs : List Nat) (k : Nat) : (dyRow bs k).length = k := by simp [dyRow]
theorem law_dyads (bs : List Nat) (hb : ∀ b ∈ bs, b < 256) : FSpec env.P 9 [.sl (bs.map byLV)] (.bool true) := by
  refine FSpec_of_code env_ok (fn := Tryd.f9) Tryd.func9 rfl Tryd.call9 _ _ ?_
  have hL : (bs.map byLV).length = bs.length := List.length_map ..
  ((repeat ((conv => whnf); first | refine brT ?_ | refine brF ?_)); conv => whnf)
  intro _
  rw [hL]
  ((repeat ((conv => whnf); first | refine brT ?_ | refine brF ?_)); conv => whnf)
  (refine ⟨fun h0 => ?_, fun h0 => ?_⟩ <;> rw [h0])
  · ((repeat ((conv => whnf); first | refine brT ?_ | refine brF ?_)); conv => whnf); exact fin rfl
  have hl : bs.length ≤ 1048576 := by rw [ltI_f] at h0; omega
  ((repeat ((conv => whnf); first | refine brT ?_ | refine brF ?_)); conv => whnf)
  refine loop_ruleR (α := Nat) [.old 0] (fun k => [(22, .undef), (4, .int .i64 (k : Int)), (3, .hs 0 (dyRow bs k).length)]) (fun k => [.arr 23 2 (dyRow bs k)]) (fun k => 3 - k) (fun k => k ≤ 3) 0 (Nat.zero_le _) ?_ ?_
  · refine ⟨?_, ⟨rfl, rfl, trivial⟩, rfl⟩
    ((repeat ((conv => whnf); refine ⟨rfl, rfl, ?_⟩)); trivial)
  intro k hk
  generalize hK : kk _ = KK
  ((repeat ((conv => whnf); first | refine brT ?_ | refine brF ?_)); conv => whnf)
  (refine ⟨fun g1 => ?_, fun g1 => ?_⟩ <;> rw [g1])
  · have hlt : k < 3 := by rw [ltI_t] at g1; have : (k : Int) < 3 := g1; omega
    have w1 : IntKind.i64.wrap (2 * (k : Int)) = ((2 * k : Nat) : Int) := by rw [wrap64 (by omega) (by omega)]; omega
    have w2 : IntKind.i64.wrap (((2 * k : Nat) : Int) + 1) = ((2 * k + 1 : Nat) : Int) := by rw [wrap64 (by omega) (by omega)]; omega
    have w3 : IntKind.i64.wrap ((k : Int) + 7) = ((k + 7 : Nat) : Int) := by rw [wrap64 (by omega) (by omega)]; omega
    have a1 := atN_spec bs (2 * k) hb hl (by omega)
    have a2 := atN_spec bs (2 * k + 1) hb hl (by omega)
    have a3 := atN_spec bs (k + 7) hb hl (by omega)
    have w4 : IntKind.i64.wrap ((atN bs (2 * k) : Int) + (atN bs (2 * k + 1) : Int)) = (dkN bs k : Nat) := by
      have := dkN_le hb k
      have e : ((atN bs (2 * k) : Int) + (atN bs (2 * k + 1) : Int)) = (dkN bs k : Nat) := by unfold dkN; omega
      rw [e, wrap64 (by omega) (by omega)]
    have w5 : Int.tmod (atN bs (k + 7) : Int) 8 = (dkE bs k : Nat) := rfl
    have hd := dyadOf_impl (dkN bs k : Nat) (dkE bs k : Nat)
    have hok : dyOK (dkN bs k : Nat) (dkE bs k : Nat) = true := dyOK_t.2 (by have := dkN_le hb k; have := dkE_le bs k; omega)
    rw [dyD_yes hok, hok] at hd
    have hdk : rdc (dkN bs k : Int).toNat (dkE bs k : Int).toNat = dk bs k := rfl
    rw [hdk] at hd
    have e := step_i hlt (by unfold Go.maxLen; omega)
    have e2 := dyRow_succ bs k
    have e3 := dyRow_len bs (k + 1)
    unfold dyLV at e2
    ((repeat ((conv => whnf); first | refine brT ?_ | refine brF ?_)); conv => whnf)
    rw [w1]
    refine ⟨_, a1, ?_⟩
    ((repeat ((conv => whnf); first | refine brT ?_ | refine brF ?_)); conv => whnf)
    rw [w1, w2]
    refine ⟨_, a2, ?_⟩
    ((repeat ((conv => whnf); first | refine brT ?_ | refine brF ?_)); conv => whnf)
    rw [w4, w3]
    refine ⟨_, a3, ?_⟩
    ((repeat ((conv => whnf); first | refine brT ?_ | refine brF ?_)); conv => whnf)
    refine ⟨by decide, ?_⟩
    ((repeat ((conv => whnf); first | refine brT ?_ | refine brF ?_)); conv => whnf)
    rw [w5]
    refine ⟨_, hd, ?_⟩
    ((repeat ((conv => whnf); first | refine brT ?_ | refine brF ?_)); conv => whnf)
    rw [show notB true = false by simp [notB]]
    ((repeat ((conv => whnf); first | refine brT ?_ | refine brF ?_)); conv => whnf)
    refine ⟨rfl, rfl, ?_, ?_, ?_⟩
    · rw [e2, e3]; unfold Go.maxLen; omega
    · rw [e2, e3]; show (k + 1) * 16 ≤ _; omega
    rw [e2]
    ((repeat ((conv => whnf); first | refine brT ?_ | refine brF ?_)); conv => whnf)
    subst hK
    refine round_endR [.old 3] (k + 1) hlt (by omega) ⟨?_, ⟨rfl, rfl, trivial⟩, rfl⟩
    ((repeat ((conv => whnf); first | refine ⟨rfl, e, ?_⟩ | refine ⟨rfl, rfl, ?_⟩)); trivial)
  have h4 : k = 3 := by rw [ltI_f] at g1; have : (3 : Int) ≤ k := g1; omega
  subst h4
  have f0 := fine_dk hb 0
  have f1 := fine_dk hb 1
  have f2 := fine_dk hb 2
  have hr : dyRow bs 3 = [dyLV (dk bs 0), dyLV (dk bs 1), dyLV (dk bs 2)] := rfl
  have he : ∀ d : Nat × Nat, eqAll [LV.int .i64 (d.1 : Int), LV.int .i64 (d.2 : Int)] [LV.int .i64 (d.1 : Int), LV.int .i64 (d.2 : Int)] = true := fun d => by simp [eqAll, eq1, eqI]
  subst hK
  ((repeat ((conv => whnf); first | refine brT ?_ | refine brF ?_)); conv => whnf)
  rw [hr]
  generalize dk bs 0 = x at f0 ⊢
  generalize dk bs 1 = y at f1 ⊢
  generalize dk bs 2 = z at f2 ⊢
  obtain ⟨b1, d1, f3⟩ := fine_add f0 f1 (by omega)
  obtain ⟨b2, d2, f4⟩ := fine_add f1 f0 (by omega)
  obtain ⟨b3, d3, f5⟩ := fine_add f3 f2 (by omega)
  obtain ⟨b4, d4, f6⟩ := fine_add f1 f2 (by omega)
  obtain ⟨b5, d5, f7⟩ := fine_add f0 f6 (by omega)
  obtain ⟨b6, d6, f8⟩ := fine_add f0 fine_zero (by omega)
  have c1 := addD_impl (cI x) (cI y)
  have c2 := addD_impl (cI y) (cI x)
  have c3 := addD_impl (cI (rd (dv x + dv y))) (cI z)
  have c4 := addD_impl (cI y) (cI z)
  have c5 := addD_impl (cI x) (cI (rd (dv y + dv z)))
  have c6 := addD_impl (cI x) (cI (0, 0))
  rw [b1, d1] at c1
  rw [b2, d2, Nat.add_comm] at c2
  rw [b3, d3, dv_rd] at c3
  rw [b4, d4] at c4
  rw [b5, d5, dv_rd, ← Nat.add_assoc] at c5
  rw [b6, d6, show dv (0, 0) = 0 from rfl, Nat.add_zero, fine_self f0] at c6
  generalize rd (dv x + dv y) = u at c1 c2 c3
  generalize rd (dv x + dv y + dv z) = v at c3 c5
  generalize rd (dv y + dv z) = t at c4 c5
  refine ⟨false, 0, 0, 0, [0, 1, 2, 3, 4, 5], (.alt 6 (.alt 7 (.alt 8 (.alt 9 (.one 10 (.one 11 (.one 12 .done))) (.one 10 (.alt 9 (.one 11 (.one 12 .done)) (.one 11 (.one 9 (.one 12 .done)))))) (.alt 9 (.alt 8 (.one 10 (.one 11 (.one 12 .done))) (.one 10 (.one 8 (.one 11 (.one 12 .done))))) (.one 10 (.alt 8 (.alt 9 (.one 11 (.one 12 .done)) (.one 11 (.one 9 (.one 12 .done)))) (.one 9 (.one 8 (.one 11 (.one 12 .done)))))))) (.one 10 (.one 7 (.alt 8 (.alt 9 (.one 11 (.one 12 .done)) (.one 11 (.one 9 (.one 12 .done)))) (.one 9 (.one 8 (.one 11 (.one 12 .done)))))))) (.one 10 (.one 6 (.one 7 (.alt 8 (.alt 9 (.one 11 (.one 12 .done)) (.one 11 (.one 9 (.one 12 .done)))) (.one 9 (.one 8 (.one 11 (.one 12 .done))))))))), by kernel_rfl, ?_⟩
  ((repeat ((conv => whnf); first | refine brT ?_ | refine brF ?_)); conv => whnf)
  refine ⟨rfl, rfl, 0, rfl, by show 0 < 3; omega, ?_⟩
  ((repeat ((conv => whnf); first | refine brT ?_ | refine brF ?_)); conv => whnf)
  refine ⟨rfl, by decide, dyLV x, rfl, rfl, ?_⟩
  ((repeat ((conv => whnf); first | refine brT ?_ | refine brF ?_)); conv => whnf)
  refine ⟨rfl, rfl, 1, rfl, by show 1 < 3; omega, ?_⟩
  ((repeat ((conv => whnf); first | refine brT ?_ | refine brF ?_)); conv => whnf)
  refine ⟨rfl, by decide, dyLV y, rfl, rfl, ?_⟩
  ((repeat ((conv => whnf); first | refine brT ?_ | refine brF ?_)); conv => whnf)
  apply Exists.intro; apply Exists.intro
  refine And.intro ?_ ?_
  · ((repeat ((conv => whnf); first | refine brT ?_ | refine brF ?_)); conv => whnf)
    refine And.intro ?_ ?_
    · ((repeat ((conv => whnf); first | refine brT ?_ | refine brF ?_)); conv => whnf)
      refine ⟨_, c1, ?_⟩
      ((repeat ((conv => whnf); first | refine brT ?_ | refine brF ?_)); conv => whnf)
      refine And.intro ?_ ?_
      · ((repeat ((conv => whnf); first | refine brT ?_ | refine brF ?_)); conv => whnf)
        refine And.intro ?_ ?_
        · ((repeat ((conv => whnf); first | refine brT ?_ | refine brF ?_)); conv => whnf)
          refine And.intro ?_ ?_
          · ((repeat ((conv => whnf); first | refine brT ?_ | refine brF ?_)); conv => whnf)
            refine weak_idD ?_ ?_ rfl
            · ((repeat ((conv => whnf); refine ⟨rfl, ?_⟩)); trivial)
            · exact ⟨rfl, rfl, trivial⟩
          · ((repeat ((conv => whnf); first | refine brT ?_ | refine brF ?_)); conv => whnf)
            refine And.intro ?_ ?_
            · ((repeat ((conv => whnf); first | refine brT ?_ | refine brF ?_)); conv => whnf)
              refine weak_idD ?_ ?_ rfl
              · ((repeat ((conv => whnf); refine ⟨rfl, ?_⟩)); trivial)
              · exact ⟨rfl, rfl, trivial⟩
            · ((repeat ((conv => whnf); first | refine brT ?_ | refine brF ?_)); conv => whnf)
              refine weak_idD ?_ ?_ rfl
              · ((repeat ((conv => whnf); refine ⟨rfl, ?_⟩)); trivial)
              · exact ⟨rfl, rfl, trivial⟩
        · ((repeat ((conv => whnf); first | refine brT ?_ | refine brF ?_)); conv => whnf)
          refine And.intro ?_ ?_
          · ((repeat ((conv => whnf); first | refine brT ?_ | refine brF ?_)); conv => whnf)
            refine And.intro ?_ ?_
            · ((repeat ((conv => whnf); first | refine brT ?_ | refine brF ?_)); conv => whnf)
              refine weak_idD ?_ ?_ rfl
              · ((repeat ((conv => whnf); refine ⟨rfl, ?_⟩)); trivial)
              · exact ⟨rfl, rfl, trivial⟩
            · ((repeat ((conv => whnf); first | refine brT ?_ | refine brF ?_)); conv => whnf)
              refine weak_idD ?_ ?_ rfl
              · ((repeat ((conv => whnf); refine ⟨rfl, ?_⟩)); trivial)
              · exact ⟨rfl, rfl, trivial⟩
          · ((repeat ((conv => whnf); first | refine brT ?_ | refine brF ?_)); conv => whnf)
            refine And.intro ?_ ?_
            · ((repeat ((conv => whnf); first | refine brT ?_ | refine brF ?_)); conv => whnf)
              refine And.intro ?_ ?_
              · ((repeat ((conv => whnf); first | refine brT ?_ | refine brF ?_)); conv => whnf)
                refine weak_idD ?_ ?_ rfl
                · ((repeat ((conv => whnf); refine ⟨rfl, ?_⟩)); trivial)
                · exact ⟨rfl, rfl, trivial⟩
              · ((repeat ((conv => whnf); first | refine brT ?_ | refine brF ?_)); conv => whnf)
                refine weak_idD ?_ ?_ rfl
                · ((repeat ((conv => whnf); refine ⟨rfl, ?_⟩)); trivial)
                · exact ⟨rfl, rfl, trivial⟩
            · ((repeat ((conv => whnf); first | refine brT ?_ | refine brF ?_)); conv => whnf)
              refine weak_idD ?_ ?_ rfl
              · ((repeat ((conv => whnf); refine ⟨rfl, ?_⟩)); trivial)
              · exact ⟨rfl, rfl, trivial⟩
      · ((repeat ((conv => whnf); first | refine brT ?_ | refine brF ?_)); conv => whnf)
        refine And.intro ?_ ?_
        · ((repeat ((conv => whnf); first | refine brT ?_ | refine brF ?_)); conv => whnf)
          refine And.intro ?_ ?_
          · ((repeat ((conv => whnf); first | refine brT ?_ | refine brF ?_)); conv => whnf)
            refine weak_idD ?_ ?_ rfl
            · ((repeat ((conv => whnf); refine ⟨rfl, ?_⟩)); trivial)
            · exact ⟨rfl, rfl, trivial⟩
          · ((repeat ((conv => whnf); first | refine brT ?_ | refine brF ?_)); conv => whnf)
            refine weak_idD ?_ ?_ rfl
            · ((repeat ((conv => whnf); refine ⟨rfl, ?_⟩)); trivial)
            · exact ⟨rfl, rfl, trivial⟩
        · ((repeat ((conv => whnf); first | refine brT ?_ | refine brF ?_)); conv => whnf)
          refine weak_idD ?_ ?_ rfl
          · ((repeat ((conv => whnf); refine ⟨rfl, ?_⟩)); trivial)
          · exact ⟨rfl, rfl, trivial⟩
    · ((repeat ((conv => whnf); first | refine brT ?_ | refine brF ?_)); conv => whnf)
      refine ⟨_, c1, ?_⟩
      ((repeat ((conv => whnf); first | refine brT ?_ | refine brF ?_)); conv => whnf)
      refine And.intro ?_ ?_
      · ((repeat ((conv => whnf); first | refine brT ?_ | refine brF ?_)); conv => whnf)
        refine And.intro ?_ ?_
        · ((repeat ((conv => whnf); first | refine brT ?_ | refine brF ?_)); conv => whnf)
          refine weak_idD ?_ ?_ rfl
          · ((repeat ((conv => whnf); refine ⟨rfl, ?_⟩)); trivial)
          · exact ⟨rfl, rfl, trivial⟩
        · ((repeat ((conv => whnf); first | refine brT ?_ | refine brF ?_)); conv => whnf)
          refine weak_idD ?_ ?_ rfl
          · ((repeat ((conv => whnf); refine ⟨rfl, ?_⟩)); trivial)
          · exact ⟨rfl, rfl, trivial⟩
      · ((repeat ((conv => whnf); first | refine brT ?_ | refine brF ?_)); conv => whnf)
        refine weak_idD ?_ ?_ rfl
        · ((repeat ((conv => whnf); refine ⟨rfl, ?_⟩)); trivial)
        · exact ⟨rfl, rfl, trivial⟩
  ((repeat ((conv => whnf); first | refine brT ?_ | refine brF ?_)); conv => whnf)
  refine ⟨false, 0, 0, 0, [0, 1, 2, 3, 4, 5], (.alt 6 (.alt 7 (.alt 8 (.alt 9 (.one 10 (.one 11 (.one 12 .done))) (.one 10 (.alt 9 (.one 11 (.one 12 .done)) (.one 11 (.one 9 (.one 12 .done)))))) (.alt 9 (.alt 8 (.one 10 (.one 11 (.one 12 .done))) (.one 10 (.one 8 (.one 11 (.one 12 .done))))) (.one 10 (.alt 8 (.alt 9 (.one 11 (.one 12 .done)) (.one 11 (.one 9 (.one 12 .done)))) (.one 9 (.one 8 (.one 11 (.one 12 .done)))))))) (.one 10 (.one 7 (.alt 8 (.alt 9 (.one 11 (.one 12 .done)) (.one 11 (.one 9 (.one 12 .done)))) (.one 9 (.one 8 (.one 11 (.one 12 .done)))))))) (.one 10 (.one 6 (.one 7 (.alt 8 (.alt 9 (.one 11 (.one 12 .done)) (.one 11 (.one 9 (.one 12 .done)))) (.one 9 (.one 8 (.one 11 (.one 12 .done))))))))), by kernel_rfl, ?_⟩
  ((repeat ((conv => whnf); first | refine brT ?_ | refine brF ?_)); conv => whnf)
  refine ⟨rfl, rfl, 1, rfl, by show 1 < 3; omega, ?_⟩
  ((repeat ((conv => whnf); first | refine brT ?_ | refine brF ?_)); conv => whnf)
  refine ⟨rfl, by decide, dyLV y, rfl, rfl, ?_⟩
  ((repeat ((conv => whnf); first | refine brT ?_ | refine brF ?_)); conv => whnf)
  refine ⟨rfl, rfl, 0, rfl, by show 0 < 3; omega, ?_⟩
  ((repeat ((conv => whnf); first | refine brT ?_ | refine brF ?_)); conv => whnf)
  refine ⟨rfl, by decide, dyLV x, rfl, rfl, ?_⟩
  ((repeat ((conv => whnf); first | refine brT ?_ | refine brF ?_)); conv => whnf)
  apply Exists.intro; apply Exists.intro
  refine And.intro ?_ ?_
  · ((repeat ((conv => whnf); first | refine brT ?_ | refine brF ?_)); conv => whnf)
    refine And.intro ?_ ?_
    · ((repeat ((conv => whnf); first | refine brT ?_ | refine brF ?_)); conv => whnf)
      refine ⟨_, c2, ?_⟩
      ((repeat ((conv => whnf); first | refine brT ?_ | refine brF ?_)); conv => whnf)
      refine And.intro ?_ ?_
      · ((repeat ((conv => whnf); first | refine brT ?_ | refine brF ?_)); conv => whnf)
        refine And.intro ?_ ?_
        · ((repeat ((conv => whnf); first | refine brT ?_ | refine brF ?_)); conv => whnf)
          refine And.intro ?_ ?_
          · ((repeat ((conv => whnf); first | refine brT ?_ | refine brF ?_)); conv => whnf)
            refine weak_idD ?_ ?_ rfl
            · ((repeat ((conv => whnf); refine ⟨rfl, ?_⟩)); trivial)
            · exact ⟨rfl, rfl, rfl, trivial⟩
          · ((repeat ((conv => whnf); first | refine brT ?_ | refine brF ?_)); conv => whnf)
            refine And.intro ?_ ?_
            · ((repeat ((conv => whnf); first | refine brT ?_ | refine brF ?_)); conv => whnf)
              refine weak_idD ?_ ?_ rfl
              · ((repeat ((conv => whnf); refine ⟨rfl, ?_⟩)); trivial)
              · exact ⟨rfl, rfl, rfl, trivial⟩
            · ((repeat ((conv => whnf); first | refine brT ?_ | refine brF ?_)); conv => whnf)
              refine weak_idD ?_ ?_ rfl
              · ((repeat ((conv => whnf); refine ⟨rfl, ?_⟩)); trivial)
              · exact ⟨rfl, rfl, rfl, trivial⟩
        · ((repeat ((conv => whnf); first | refine brT ?_ | refine brF ?_)); conv => whnf)
          refine And.intro ?_ ?_
          · ((repeat ((conv => whnf); first | refine brT ?_ | refine brF ?_)); conv => whnf)
            refine And.intro ?_ ?_
            · ((repeat ((conv => whnf); first | refine brT ?_ | refine brF ?_)); conv => whnf)
              refine weak_idD ?_ ?_ rfl
              · ((repeat ((conv => whnf); refine ⟨rfl, ?_⟩)); trivial)
              · exact ⟨rfl, rfl, rfl, trivial⟩
            · ((repeat ((conv => whnf); first | refine brT ?_ | refine brF ?_)); conv => whnf)
              refine weak_idD ?_ ?_ rfl
              · ((repeat ((conv => whnf); refine ⟨rfl, ?_⟩)); trivial)
              · exact ⟨rfl, rfl, rfl, trivial⟩
          · ((repeat ((conv => whnf); first | refine brT ?_ | refine brF ?_)); conv => whnf)
            refine And.intro ?_ ?_
            · ((repeat ((conv => whnf); first | refine brT ?_ | refine brF ?_)); conv => whnf)
              refine And.intro ?_ ?_
              · ((repeat ((conv => whnf); first | refine brT ?_ | refine brF ?_)); conv => whnf)
                refine weak_idD ?_ ?_ rfl
                · ((repeat ((conv => whnf); refine ⟨rfl, ?_⟩)); trivial)
                · exact ⟨rfl, rfl, rfl, trivial⟩
              · ((repeat ((conv => whnf); first | refine brT ?_ | refine brF ?_)); conv => whnf)
                refine weak_idD ?_ ?_ rfl
                · ((repeat ((conv => whnf); refine ⟨rfl, ?_⟩)); trivial)
                · exact ⟨rfl, rfl, rfl, trivial⟩
            · ((repeat ((conv => whnf); first | refine brT ?_ | refine brF ?_)); conv => whnf)
              refine weak_idD ?_ ?_ rfl
              · ((repeat ((conv => whnf); refine ⟨rfl, ?_⟩)); trivial)
              · exact ⟨rfl, rfl, rfl, trivial⟩
      · ((repeat ((conv => whnf); first | refine brT ?_ | refine brF ?_)); conv => whnf)
        refine And.intro ?_ ?_
        · ((repeat ((conv => whnf); first | refine brT ?_ | refine brF ?_)); conv => whnf)
          refine And.intro ?_ ?_
          · ((repeat ((conv => whnf); first | refine brT ?_ | refine brF ?_)); conv => whnf)
            refine weak_idD ?_ ?_ rfl
            · ((repeat ((conv => whnf); refine ⟨rfl, ?_⟩)); trivial)
            · exact ⟨rfl, rfl, rfl, trivial⟩
          · ((repeat ((conv => whnf); first | refine brT ?_ | refine brF ?_)); conv => whnf)
            refine weak_idD ?_ ?_ rfl
            · ((repeat ((conv => whnf); refine ⟨rfl, ?_⟩)); trivial)
            · exact ⟨rfl, rfl, rfl, trivial⟩
        · ((repeat ((conv => whnf); first | refine brT ?_ | refine brF ?_)); conv => whnf)
          refine weak_idD ?_ ?_ rfl
          · ((repeat ((conv => whnf); refine ⟨rfl, ?_⟩)); trivial)
          · exact ⟨rfl, rfl, rfl, trivial⟩
    · ((repeat ((conv => whnf); first | refine brT ?_ | refine brF ?_)); conv => whnf)
      refine ⟨_, c2, ?_⟩
      ((repeat ((conv => whnf); first | refine brT ?_ | refine brF ?_)); conv => whnf)
      refine And.intro ?_ ?_
      · ((repeat ((conv => whnf); first | refine brT ?_ | refine brF ?_)); conv => whnf)
        refine And.intro ?_ ?_
        · ((repeat ((conv => whnf); first | refine brT ?_ | refine brF ?_)); conv => whnf)
          refine weak_idD ?_ ?_ rfl
          · ((repeat ((conv => whnf); refine ⟨rfl, ?_⟩)); trivial)
          · exact ⟨rfl, rfl, rfl, trivial⟩
        · ((repeat ((conv => whnf); first | refine brT ?_ | refine brF ?_)); conv => whnf)
          refine weak_idD ?_ ?_ rfl
          · ((repeat ((conv => whnf); refine ⟨rfl, ?_⟩)); trivial)
          · exact ⟨rfl, rfl, rfl, trivial⟩
      · ((repeat ((conv => whnf); first | refine brT ?_ | refine brF ?_)); conv => whnf)
        refine weak_idD ?_ ?_ rfl
        · ((repeat ((conv => whnf); refine ⟨rfl, ?_⟩)); trivial)
        · exact ⟨rfl, rfl, rfl, trivial⟩
  ((repeat ((conv => whnf); first | refine brT ?_ | refine brF ?_)); conv => whnf)
  refine ⟨false, 0, 0, 0, [0, 1, 2, 3], (.alt 4 (.alt 5 (.alt 6 (.alt 7 (.one 8 (.one 9 (.one 10 .done))) (.one 8 (.alt 7 (.one 9 (.one 10 .done)) (.one 9 (.one 7 (.one 10 .done)))))) (.alt 7 (.alt 6 (.one 8 (.one 9 (.one 10 .done))) (.one 8 (.one 6 (.one 9 (.one 10 .done))))) (.one 8 (.alt 6 (.alt 7 (.one 9 (.one 10 .done)) (.one 9 (.one 7 (.one 10 .done)))) (.one 7 (.one 6 (.one 9 (.one 10 .done)))))))) (.one 8 (.one 5 (.alt 6 (.alt 7 (.one 9 (.one 10 .done)) (.one 9 (.one 7 (.one 10 .done)))) (.one 7 (.one 6 (.one 9 (.one 10 .done)))))))) (.one 8 (.one 4 (.one 5 (.alt 6 (.alt 7 (.one 9 (.one 10 .done)) (.one 9 (.one 7 (.one 10 .done)))) (.one 7 (.one 6 (.one 9 (.one 10 .done))))))))), by kernel_rfl, ?_⟩
  ((repeat ((conv => whnf); first | refine brT ?_ | refine brF ?_)); conv => whnf)
  refine ⟨rfl, rfl, 2, rfl, by show 2 < 3; omega, ?_⟩
  ((repeat ((conv => whnf); first | refine brT ?_ | refine brF ?_)); conv => whnf)
  refine ⟨rfl, by decide, dyLV z, rfl, rfl, ?_⟩
  ((repeat ((conv => whnf); first | refine brT ?_ | refine brF ?_)); conv => whnf)
  apply Exists.intro; apply Exists.intro
  refine And.intro ?_ ?_
  · ((repeat ((conv => whnf); first | refine brT ?_ | refine brF ?_)); conv => whnf)
    refine And.intro ?_ ?_
    · ((repeat ((conv => whnf); first | refine brT ?_ | refine brF ?_)); conv => whnf)
      refine ⟨_, c3, ?_⟩
      ((repeat ((conv => whnf); first | refine brT ?_ | refine brF ?_)); conv => whnf)
      refine And.intro ?_ ?_
      · ((repeat ((conv => whnf); first | refine brT ?_ | refine brF ?_)); conv => whnf)
        refine And.intro ?_ ?_
        · ((repeat ((conv => whnf); first | refine brT ?_ | refine brF ?_)); conv => whnf)
          refine And.intro ?_ ?_
          · ((repeat ((conv => whnf); first | refine brT ?_ | refine brF ?_)); conv => whnf)
            refine weak_idD ?_ ?_ rfl
            · ((repeat ((conv => whnf); refine ⟨rfl, ?_⟩)); trivial)
            · exact ⟨rfl, rfl, rfl, rfl, trivial⟩
          · ((repeat ((conv => whnf); first | refine brT ?_ | refine brF ?_)); conv => whnf)
            refine And.intro ?_ ?_
            · ((repeat ((conv => whnf); first | refine brT ?_ | refine brF ?_)); conv => whnf)
              refine weak_idD ?_ ?_ rfl
              · ((repeat ((conv => whnf); refine ⟨rfl, ?_⟩)); trivial)
              · exact ⟨rfl, rfl, rfl, rfl, trivial⟩
            · ((repeat ((conv => whnf); first | refine brT ?_ | refine brF ?_)); conv => whnf)
              refine weak_idD ?_ ?_ rfl
              · ((repeat ((conv => whnf); refine ⟨rfl, ?_⟩)); trivial)
              · exact ⟨rfl, rfl, rfl, rfl, trivial⟩
        · ((repeat ((conv => whnf); first | refine brT ?_ | refine brF ?_)); conv => whnf)
          refine And.intro ?_ ?_
          · ((repeat ((conv => whnf); first | refine brT ?_ | refine brF ?_)); conv => whnf)
            refine And.intro ?_ ?_
            · ((repeat ((conv => whnf); first | refine brT ?_ | refine brF ?_)); conv => whnf)
              refine weak_idD ?_ ?_ rfl
              · ((repeat ((conv => whnf); refine ⟨rfl, ?_⟩)); trivial)
              · exact ⟨rfl, rfl, rfl, rfl, trivial⟩
            · ((repeat ((conv => whnf); first | refine brT ?_ | refine brF ?_)); conv => whnf)
              refine weak_idD ?_ ?_ rfl
              · ((repeat ((conv => whnf); refine ⟨rfl, ?_⟩)); trivial)
              · exact ⟨rfl, rfl, rfl, rfl, trivial⟩
          · ((repeat ((conv => whnf); first | refine brT ?_ | refine brF ?_)); conv => whnf)
            refine And.intro ?_ ?_
            · ((repeat ((conv => whnf); first | refine brT ?_ | refine brF ?_)); conv => whnf)
              refine And.intro ?_ ?_
              · ((repeat ((conv => whnf); first | refine brT ?_ | refine brF ?_)); conv => whnf)
                refine weak_idD ?_ ?_ rfl
                · ((repeat ((conv => whnf); refine ⟨rfl, ?_⟩)); trivial)
                · exact ⟨rfl, rfl, rfl, rfl, trivial⟩
              · ((repeat ((conv => whnf); first | refine brT ?_ | refine brF ?_)); conv => whnf)
                refine weak_idD ?_ ?_ rfl
                · ((repeat ((conv => whnf); refine ⟨rfl, ?_⟩)); trivial)
                · exact ⟨rfl, rfl, rfl, rfl, trivial⟩
            · ((repeat ((conv => whnf); first | refine brT ?_ | refine brF ?_)); conv => whnf)
              refine weak_idD ?_ ?_ rfl
              · ((repeat ((conv => whnf); refine ⟨rfl, ?_⟩)); trivial)
              · exact ⟨rfl, rfl, rfl, rfl, trivial⟩
      · ((repeat ((conv => whnf); first | refine brT ?_ | refine brF ?_)); conv => whnf)
        refine And.intro ?_ ?_
        · ((repeat ((conv => whnf); first | refine brT ?_ | refine brF ?_)); conv => whnf)
          refine And.intro ?_ ?_
          · ((repeat ((conv => whnf); first | refine brT ?_ | refine brF ?_)); conv => whnf)
            refine weak_idD ?_ ?_ rfl
            · ((repeat ((conv => whnf); refine ⟨rfl, ?_⟩)); trivial)
            · exact ⟨rfl, rfl, rfl, rfl, trivial⟩
          · ((repeat ((conv => whnf); first | refine brT ?_ | refine brF ?_)); conv => whnf)
            refine weak_idD ?_ ?_ rfl
            · ((repeat ((conv => whnf); refine ⟨rfl, ?_⟩)); trivial)
            · exact ⟨rfl, rfl, rfl, rfl, trivial⟩
        · ((repeat ((conv => whnf); first | refine brT ?_ | refine brF ?_)); conv => whnf)
          refine weak_idD ?_ ?_ rfl
          · ((repeat ((conv => whnf); refine ⟨rfl, ?_⟩)); trivial)
          · exact ⟨rfl, rfl, rfl, rfl, trivial⟩
    · ((repeat ((conv => whnf); first | refine brT ?_ | refine brF ?_)); conv => whnf)
      refine ⟨_, c3, ?_⟩
      ((repeat ((conv => whnf); first | refine brT ?_ | refine brF ?_)); conv => whnf)
      refine And.intro ?_ ?_
      · ((repeat ((conv => whnf); first | refine brT ?_ | refine brF ?_)); conv => whnf)
        refine And.intro ?_ ?_
        · ((repeat ((conv => whnf); first | refine brT ?_ | refine brF ?_)); conv => whnf)
          refine weak_idD ?_ ?_ rfl
          · ((repeat ((conv => whnf); refine ⟨rfl, ?_⟩)); trivial)
          · exact ⟨rfl, rfl, rfl, rfl, trivial⟩
        · ((repeat ((conv => whnf); first | refine brT ?_ | refine brF ?_)); conv => whnf)
          refine weak_idD ?_ ?_ rfl
          · ((repeat ((conv => whnf); refine ⟨rfl, ?_⟩)); trivial)
          · exact ⟨rfl, rfl, rfl, rfl, trivial⟩
      · ((repeat ((conv => whnf); first | refine brT ?_ | refine brF ?_)); conv => whnf)
        refine weak_idD ?_ ?_ rfl
        · ((repeat ((conv => whnf); refine ⟨rfl, ?_⟩)); trivial)
        · exact ⟨rfl, rfl, rfl, rfl, trivial⟩
  ((repeat ((conv => whnf); first | refine brT ?_ | refine brF ?_)); conv => whnf)
  refine ⟨false, 0, 0, 0, [0, 1, 2, 3, 4, 5], (.alt 6 (.alt 7 (.alt 8 (.alt 9 (.one 10 (.one 11 (.one 12 .done))) (.one 10 (.alt 9 (.one 11 (.one 12 .done)) (.one 11 (.one 9 (.one 12 .done)))))) (.alt 9 (.alt 8 (.one 10 (.one 11 (.one 12 .done))) (.one 10 (.one 8 (.one 11 (.one 12 .done))))) (.one 10 (.alt 8 (.alt 9 (.one 11 (.one 12 .done)) (.one 11 (.one 9 (.one 12 .done)))) (.one 9 (.one 8 (.one 11 (.one 12 .done)))))))) (.one 10 (.one 7 (.alt 8 (.alt 9 (.one 11 (.one 12 .done)) (.one 11 (.one 9 (.one 12 .done)))) (.one 9 (.one 8 (.one 11 (.one 12 .done)))))))) (.one 10 (.one 6 (.one 7 (.alt 8 (.alt 9 (.one 11 (.one 12 .done)) (.one 11 (.one 9 (.one 12 .done)))) (.one 9 (.one 8 (.one 11 (.one 12 .done))))))))), by kernel_rfl, ?_⟩
  ((repeat ((conv => whnf); first | refine brT ?_ | refine brF ?_)); conv => whnf)
  refine ⟨rfl, rfl, 1, rfl, by show 1 < 3; omega, ?_⟩
  ((repeat ((conv => whnf); first | refine brT ?_ | refine brF ?_)); conv => whnf)
  refine ⟨rfl, by decide, dyLV y, rfl, rfl, ?_⟩
  ((repeat ((conv => whnf); first | refine brT ?_ | refine brF ?_)); conv => whnf)
  refine ⟨rfl, rfl, 2, rfl, by show 2 < 3; omega, ?_⟩
  ((repeat ((conv => whnf); first | refine brT ?_ | refine brF ?_)); conv => whnf)
  refine ⟨rfl, by decide, dyLV z, rfl, rfl, ?_⟩
  ((repeat ((conv => whnf); first | refine brT ?_ | refine brF ?_)); conv => whnf)
  apply Exists.intro; apply Exists.intro
  refine And.intro ?_ ?_
  · ((repeat ((conv => whnf); first | refine brT ?_ | refine brF ?_)); conv => whnf)
    refine And.intro ?_ ?_
    · ((repeat ((conv => whnf); first | refine brT ?_ | refine brF ?_)); conv => whnf)
      refine ⟨_, c4, ?_⟩
      ((repeat ((conv => whnf); first | refine brT ?_ | refine brF ?_)); conv => whnf)
      refine And.intro ?_ ?_
      · ((repeat ((conv => whnf); first | refine brT ?_ | refine brF ?_)); conv => whnf)
        refine And.intro ?_ ?_
        · ((repeat ((conv => whnf); first | refine brT ?_ | refine brF ?_)); conv => whnf)
          refine And.intro ?_ ?_
          · ((repeat ((conv => whnf); first | refine brT ?_ | refine brF ?_)); conv => whnf)
            refine weak_idD ?_ ?_ rfl
            · ((repeat ((conv => whnf); refine ⟨rfl, ?_⟩)); trivial)
            · exact ⟨rfl, rfl, rfl, rfl, rfl, trivial⟩
          · ((repeat ((conv => whnf); first | refine brT ?_ | refine brF ?_)); conv => whnf)
            refine And.intro ?_ ?_
            · ((repeat ((conv => whnf); first | refine brT ?_ | refine brF ?_)); conv => whnf)
              refine weak_idD ?_ ?_ rfl
              · ((repeat ((conv => whnf); refine ⟨rfl, ?_⟩)); trivial)
              · exact ⟨rfl, rfl, rfl, rfl, rfl, trivial⟩
            · ((repeat ((conv => whnf); first | refine brT ?_ | refine brF ?_)); conv => whnf)
              refine weak_idD ?_ ?_ rfl
              · ((repeat ((conv => whnf); refine ⟨rfl, ?_⟩)); trivial)
              · exact ⟨rfl, rfl, rfl, rfl, rfl, trivial⟩
        · ((repeat ((conv => whnf); first | refine brT ?_ | refine brF ?_)); conv => whnf)
          refine And.intro ?_ ?_
          · ((repeat ((conv => whnf); first | refine brT ?_ | refine brF ?_)); conv => whnf)
            refine And.intro ?_ ?_
            · ((repeat ((conv => whnf); first | refine brT ?_ | refine brF ?_)); conv => whnf)
              refine weak_idD ?_ ?_ rfl
              · ((repeat ((conv => whnf); refine ⟨rfl, ?_⟩)); trivial)
              · exact ⟨rfl, rfl, rfl, rfl, rfl, trivial⟩
            · ((repeat ((conv => whnf); first | refine brT ?_ | refine brF ?_)); conv => whnf)
              refine weak_idD ?_ ?_ rfl
              · ((repeat ((conv => whnf); refine ⟨rfl, ?_⟩)); trivial)
              · exact ⟨rfl, rfl, rfl, rfl, rfl, trivial⟩
          · ((repeat ((conv => whnf); first | refine brT ?_ | refine brF ?_)); conv => whnf)
            refine And.intro ?_ ?_
            · ((repeat ((conv => whnf); first | refine brT ?_ | refine brF ?_)); conv => whnf)
              refine And.intro ?_ ?_
              · ((repeat ((conv => whnf); first | refine brT ?_ | refine brF ?_)); conv => whnf)
                refine weak_idD ?_ ?_ rfl
                · ((repeat ((conv => whnf); refine ⟨rfl, ?_⟩)); trivial)
                · exact ⟨rfl, rfl, rfl, rfl, rfl, trivial⟩
              · ((repeat ((conv => whnf); first | refine brT ?_ | refine brF ?_)); conv => whnf)
                refine weak_idD ?_ ?_ rfl
                · ((repeat ((conv => whnf); refine ⟨rfl, ?_⟩)); trivial)
                · exact ⟨rfl, rfl, rfl, rfl, rfl, trivial⟩
            · ((repeat ((conv => whnf); first | refine brT ?_ | refine brF ?_)); conv => whnf)
              refine weak_idD ?_ ?_ rfl
              · ((repeat ((conv => whnf); refine ⟨rfl, ?_⟩)); trivial)
              · exact ⟨rfl, rfl, rfl, rfl, rfl, trivial⟩
      · ((repeat ((conv => whnf); first | refine brT ?_ | refine brF ?_)); conv => whnf)
        refine And.intro ?_ ?_
        · ((repeat ((conv => whnf); first | refine brT ?_ | refine brF ?_)); conv => whnf)
          refine And.intro ?_ ?_
          · ((repeat ((conv => whnf); first | refine brT ?_ | refine brF ?_)); conv => whnf)
            refine weak_idD ?_ ?_ rfl
            · ((repeat ((conv => whnf); refine ⟨rfl, ?_⟩)); trivial)
            · exact ⟨rfl, rfl, rfl, rfl, rfl, trivial⟩
          · ((repeat ((conv => whnf); first | refine brT ?_ | refine brF ?_)); conv => whnf)
            refine weak_idD ?_ ?_ rfl
            · ((repeat ((conv => whnf); refine ⟨rfl, ?_⟩)); trivial)
            · exact ⟨rfl, rfl, rfl, rfl, rfl, trivial⟩
        · ((repeat ((conv => whnf); first | refine brT ?_ | refine brF ?_)); conv => whnf)
          refine weak_idD ?_ ?_ rfl
          · ((repeat ((conv => whnf); refine ⟨rfl, ?_⟩)); trivial)
          · exact ⟨rfl, rfl, rfl, rfl, rfl, trivial⟩
    · ((repeat ((conv => whnf); first | refine brT ?_ | refine brF ?_)); conv => whnf)
      refine ⟨_, c4, ?_⟩
      ((repeat ((conv => whnf); first | refine brT ?_ | refine brF ?_)); conv => whnf)
      refine And.intro ?_ ?_
      · ((repeat ((conv => whnf); first | refine brT ?_ | refine brF ?_)); conv => whnf)
        refine And.intro ?_ ?_
        · ((repeat ((conv => whnf); first | refine brT ?_ | refine brF ?_)); conv => whnf)
          refine weak_idD ?_ ?_ rfl
          · ((repeat ((conv => whnf); refine ⟨rfl, ?_⟩)); trivial)
          · exact ⟨rfl, rfl, rfl, rfl, rfl, trivial⟩
        · ((repeat ((conv => whnf); first | refine brT ?_ | refine brF ?_)); conv => whnf)
          refine weak_idD ?_ ?_ rfl
          · ((repeat ((conv => whnf); refine ⟨rfl, ?_⟩)); trivial)
          · exact ⟨rfl, rfl, rfl, rfl, rfl, trivial⟩
      · ((repeat ((conv => whnf); first | refine brT ?_ | refine brF ?_)); conv => whnf)
        refine weak_idD ?_ ?_ rfl
        · ((repeat ((conv => whnf); refine ⟨rfl, ?_⟩)); trivial)
        · exact ⟨rfl, rfl, rfl, rfl, rfl, trivial⟩
  ((repeat ((conv => whnf); first | refine brT ?_ | refine brF ?_)); conv => whnf)
  refine ⟨false, 0, 0, 0, [0, 1, 2, 3], (.alt 4 (.alt 5 (.alt 6 (.alt 7 (.one 8 (.one 9 (.one 10 .done))) (.one 8 (.alt 7 (.one 9 (.one 10 .done)) (.one 9 (.one 7 (.one 10 .done)))))) (.alt 7 (.alt 6 (.one 8 (.one 9 (.one 10 .done))) (.one 8 (.one 6 (.one 9 (.one 10 .done))))) (.one 8 (.alt 6 (.alt 7 (.one 9 (.one 10 .done)) (.one 9 (.one 7 (.one 10 .done)))) (.one 7 (.one 6 (.one 9 (.one 10 .done)))))))) (.one 8 (.one 5 (.alt 6 (.alt 7 (.one 9 (.one 10 .done)) (.one 9 (.one 7 (.one 10 .done)))) (.one 7 (.one 6 (.one 9 (.one 10 .done)))))))) (.one 8 (.one 4 (.one 5 (.alt 6 (.alt 7 (.one 9 (.one 10 .done)) (.one 9 (.one 7 (.one 10 .done)))) (.one 7 (.one 6 (.one 9 (.one 10 .done))))))))), by kernel_rfl, ?_⟩
  ((repeat ((conv => whnf); first | refine brT ?_ | refine brF ?_)); conv => whnf)
  refine ⟨rfl, rfl, 0, rfl, by show 0 < 3; omega, ?_⟩
  ((repeat ((conv => whnf); first | refine brT ?_ | refine brF ?_)); conv => whnf)
  refine ⟨rfl, by decide, dyLV x, rfl, rfl, ?_⟩
  ((repeat ((conv => whnf); first | refine brT ?_ | refine brF ?_)); conv => whnf)
  apply Exists.intro; apply Exists.intro
  refine And.intro ?_ ?_
  · ((repeat ((conv => whnf); first | refine brT ?_ | refine brF ?_)); conv => whnf)
    refine And.intro ?_ ?_
    · ((repeat ((conv => whnf); first | refine brT ?_ | refine brF ?_)); conv => whnf)
      refine ⟨_, c5, ?_⟩
      ((repeat ((conv => whnf); first | refine brT ?_ | refine brF ?_)); conv => whnf)
      refine And.intro ?_ ?_
      · ((repeat ((conv => whnf); first | refine brT ?_ | refine brF ?_)); conv => whnf)
        refine And.intro ?_ ?_
        · ((repeat ((conv => whnf); first | refine brT ?_ | refine brF ?_)); conv => whnf)
          refine And.intro ?_ ?_
          · ((repeat ((conv => whnf); first | refine brT ?_ | refine brF ?_)); conv => whnf)
            refine weak_idD ?_ ?_ rfl
            · ((repeat ((conv => whnf); refine ⟨rfl, ?_⟩)); trivial)
            · exact ⟨rfl, rfl, rfl, rfl, rfl, rfl, trivial⟩
          · ((repeat ((conv => whnf); first | refine brT ?_ | refine brF ?_)); conv => whnf)
            refine And.intro ?_ ?_
            · ((repeat ((conv => whnf); first | refine brT ?_ | refine brF ?_)); conv => whnf)
              refine weak_idD ?_ ?_ rfl
              · ((repeat ((conv => whnf); refine ⟨rfl, ?_⟩)); trivial)
              · exact ⟨rfl, rfl, rfl, rfl, rfl, rfl, trivial⟩
            · ((repeat ((conv => whnf); first | refine brT ?_ | refine brF ?_)); conv => whnf)
              refine weak_idD ?_ ?_ rfl
              · ((repeat ((conv => whnf); refine ⟨rfl, ?_⟩)); trivial)
              · exact ⟨rfl, rfl, rfl, rfl, rfl, rfl, trivial⟩
        · ((repeat ((conv => whnf); first | refine brT ?_ | refine brF ?_)); conv => whnf)
          refine And.intro ?_ ?_
          · ((repeat ((conv => whnf); first | refine brT ?_ | refine brF ?_)); conv => whnf)
            refine And.intro ?_ ?_
            · ((repeat ((conv => whnf); first | refine brT ?_ | refine brF ?_)); conv => whnf)
              refine weak_idD ?_ ?_ rfl
              · ((repeat ((conv => whnf); refine ⟨rfl, ?_⟩)); trivial)
              · exact ⟨rfl, rfl, rfl, rfl, rfl, rfl, trivial⟩
            · ((repeat ((conv => whnf); first | refine brT ?_ | refine brF ?_)); conv => whnf)
              refine weak_idD ?_ ?_ rfl
              · ((repeat ((conv => whnf); refine ⟨rfl, ?_⟩)); trivial)
              · exact ⟨rfl, rfl, rfl, rfl, rfl, rfl, trivial⟩
          · ((repeat ((conv => whnf); first | refine brT ?_ | refine brF ?_)); conv => whnf)
            refine And.intro ?_ ?_
            · ((repeat ((conv => whnf); first | refine brT ?_ | refine brF ?_)); conv => whnf)
              refine And.intro ?_ ?_
              · ((repeat ((conv => whnf); first | refine brT ?_ | refine brF ?_)); conv => whnf)
                refine weak_idD ?_ ?_ rfl
                · ((repeat ((conv => whnf); refine ⟨rfl, ?_⟩)); trivial)
                · exact ⟨rfl, rfl, rfl, rfl, rfl, rfl, trivial⟩
              · ((repeat ((conv => whnf); first | refine brT ?_ | refine brF ?_)); conv => whnf)
                refine weak_idD ?_ ?_ rfl
                · ((repeat ((conv => whnf); refine ⟨rfl, ?_⟩)); trivial)
                · exact ⟨rfl, rfl, rfl, rfl, rfl, rfl, trivial⟩
            · ((repeat ((conv => whnf); first | refine brT ?_ | refine brF ?_)); conv => whnf)
              refine weak_idD ?_ ?_ rfl
              · ((repeat ((conv => whnf); refine ⟨rfl, ?_⟩)); trivial)
              · exact ⟨rfl, rfl, rfl, rfl, rfl, rfl, trivial⟩
      · ((repeat ((conv => whnf); first | refine brT ?_ | refine brF ?_)); conv => whnf)
        refine And.intro ?_ ?_
        · ((repeat ((conv => whnf); first | refine brT ?_ | refine brF ?_)); conv => whnf)
          refine And.intro ?_ ?_
          · ((repeat ((conv => whnf); first | refine brT ?_ | refine brF ?_)); conv => whnf)
            refine weak_idD ?_ ?_ rfl
            · ((repeat ((conv => whnf); refine ⟨rfl, ?_⟩)); trivial)
            · exact ⟨rfl, rfl, rfl, rfl, rfl, rfl, trivial⟩
          · ((repeat ((conv => whnf); first | refine brT ?_ | refine brF ?_)); conv => whnf)
            refine weak_idD ?_ ?_ rfl
            · ((repeat ((conv => whnf); refine ⟨rfl, ?_⟩)); trivial)
            · exact ⟨rfl, rfl, rfl, rfl, rfl, rfl, trivial⟩
        · ((repeat ((conv => whnf); first | refine brT ?_ | refine brF ?_)); conv => whnf)
          refine weak_idD ?_ ?_ rfl
          · ((repeat ((conv => whnf); refine ⟨rfl, ?_⟩)); trivial)
          · exact ⟨rfl, rfl, rfl, rfl, rfl, rfl, trivial⟩
    · ((repeat ((conv => whnf); first | refine brT ?_ | refine brF ?_)); conv => whnf)
      refine ⟨_, c5, ?_⟩
      ((repeat ((conv => whnf); first | refine brT ?_ | refine brF ?_)); conv => whnf)
      refine And.intro ?_ ?_
      · ((repeat ((conv => whnf); first | refine brT ?_ | refine brF ?_)); conv => whnf)
        refine And.intro ?_ ?_
        · ((repeat ((conv => whnf); first | refine brT ?_ | refine brF ?_)); conv => whnf)
          refine weak_idD ?_ ?_ rfl
          · ((repeat ((conv => whnf); refine ⟨rfl, ?_⟩)); trivial)
          · exact ⟨rfl, rfl, rfl, rfl, rfl, rfl, trivial⟩
        · ((repeat ((conv => whnf); first | refine brT ?_ | refine brF ?_)); conv => whnf)
          refine weak_idD ?_ ?_ rfl
          · ((repeat ((conv => whnf); refine ⟨rfl, ?_⟩)); trivial)
          · exact ⟨rfl, rfl, rfl, rfl, rfl, rfl, trivial⟩
      · ((repeat ((conv => whnf); first | refine brT ?_ | refine brF ?_)); conv => whnf)
        refine weak_idD ?_ ?_ rfl
        · ((repeat ((conv => whnf); refine ⟨rfl, ?_⟩)); trivial)
        · exact ⟨rfl, rfl, rfl, rfl, rfl, rfl, trivial⟩
  ((repeat ((conv => whnf); first | refine brT ?_ | refine brF ?_)); conv => whnf)
  refine ⟨rfl, rfl, 0, rfl, by show 0 < 3; omega, ?_⟩
  ((repeat ((conv => whnf); first | refine brT ?_ | refine brF ?_)); conv => whnf)
  refine ⟨rfl, by decide, dyLV x, rfl, rfl, ?_⟩
  ((repeat ((conv => whnf); first | refine brT ?_ | refine brF ?_)); conv => whnf)
  refine ⟨_, c6, ?_⟩
  ((repeat ((conv => whnf); first | refine brT ?_ | refine brF ?_)); conv => whnf)
  refine ⟨true, by kernel_rfl, ?_⟩
  ((repeat ((conv => whnf); first | refine brT ?_ | refine brF ?_)); conv => whnf)
  rw [he u]
  ((repeat ((conv => whnf); first | refine brT ?_ | refine brF ?_)); conv => whnf)
  rw [he v]
  ((repeat ((conv => whnf); first | refine brT ?_ | refine brF ?_)); conv => whnf)
  refine ⟨rfl, rfl, 0, rfl, by show 0 < 3; omega, ?_⟩
  ((repeat ((conv => whnf); first | refine brT ?_ | refine brF ?_)); conv => whnf)
  refine ⟨rfl, by decide, dyLV x, rfl, rfl, ?_⟩
  ((repeat ((conv => whnf); first | refine brT ?_ | refine brF ?_)); conv => whnf)
  rw [he x]
  ((repeat ((conv => whnf); first | refine brT ?_ | refine brF ?_)); conv => whnf)
  exact fin rfl
theorem law_dyadsW (bs : List Nat) (h : bs.length ≤ Go.maxLen ∧ ∀ b ∈ bs, b < 256) : FSpec env.P 9 [.sl (bs.map byLV)] (.bool true) := law_dyads bs h.2
end Go.Proofs.YtplkockghigpdaaDoor


namespace Go.Proofs.YtplkockghigpdaaDoor
namespace Seat
open Go.RowKit
abbrev laid2 : List (String × DataW Unit) := Rows.fnExactDyadOfRow.laid
set_option maxRecDepth 100000 in
theorem door_met (os : Os) (args : Array Value) : laidMetH Tryd.prog laid2 ((World.doorLaid Tryd.prog 400 os).forCall (fun _ _ => 0) ⟨#[], args, []⟩).memory :=
  laidMetH_of_parts3 (fuel := 8) (laidMet_of_run' 8 (by kernel_rfl) (by kernel_rfl)) (by kernel_rfl) (by kernel_rfl)
set_option maxRecDepth 100000 in
theorem door_shaped (os : Os) (args : Array Value) : ((World.doorLaid Tryd.prog 400 os).forCall (fun _ _ => 0) ⟨#[], args, []⟩).Shaped Tryd.prog := World.shaped_of_RefB (by kernel_rfl) (by kernel_rfl)
end Seat
end Go.Proofs.YtplkockghigpdaaDoor

