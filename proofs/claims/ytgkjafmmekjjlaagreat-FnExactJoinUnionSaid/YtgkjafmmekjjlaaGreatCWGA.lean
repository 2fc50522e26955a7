/- Contracts of functions of the program and of its model, told over readings. -/
import Derived.Test.YtgkjafmmekjjlaaGreatChecked
import Derived.WalkKit
import Derived.Lib.Walk
import Derived.Laws.Bits64b
import Derived.Laws.CopyOwn
import Derived.Deep.RegionLaw
import Derived.Deep.LoopGhost
import Derived.Deep.OwnRows
import Derived.Deep.RegionHeld
import Derived.KernelRfl
import Derived.OwnWalk
import Derived.Test.YtgkjafmmekjjlaaGreatRows
import Derived.Test.YtgkjafmmekjjlaaGreatCLgN
import Derived.Laws.RangeAny
set_option maxHeartbeats 2000000
set_option maxRecDepth 10000
set_option linter.unusedVariables false
set_option linter.unusedSimpArgs false
set_option linter.unusedSectionVars false
namespace Go.Proofs.SB
open Go.RowKit
theorem mulOne (n : Nat) (hn : n ≤ 40) (w : World) : Calls Tryz.prog 147 #[.int .u64 1, .int .u64 n] w fun e w' => e = .returned (.tuple #[.int .u64 0, .int .u64 n]) ∧ w' = w := by
  have a1 : bits .and .u64 1 4294967295 = 1 := by decide
  have a2 : bits .and .u64 (n : Int) 4294967295 = n := by
    have h := bits_and_u64_nat n 4294967295 (by omega) (by omega)
    rw [show ((4294967295 : Nat) : Int) = 4294967295 from rfl] at h
    rw [h]
    congr 1
    have : n &&& 2 ^ 32 - 1 = n % 2 ^ 32 := Nat.and_two_pow_sub_one_eq_mod n 32
    rw [show (4294967295 : Nat) = 2 ^ 32 - 1 from rfl, this]
    exact Nat.mod_eq_of_lt (by omega)
  have a3 : (n : Int) / 4294967296 = 0 := by omega
  have a4 : bits .and .u64 0 4294967295 = 0 := by decide
  go_enter Tryz.func147, Tryz.ntmps147
  go_wp2
  go_ret2
  exact ⟨rfl, rfl⟩
theorem mulOne' (n : Nat) (hn : n ≤ 40) (w : World) : Calls Tryz.prog 109 #[.int .u64 1, .int .u64 n] w fun e w' => e = .returned (.tuple #[.int .u64 0, .int .u64 n]) ∧ w' = w := by
  go_enter Tryz.func109, Tryz.ntmps109
  go_wp2_with (go_at_call 147; refine (mulOne n hn _).mono ?_; rintro e w' ⟨rfl, rfl⟩)
  go_ret2
  exact ⟨rfl, rfl⟩
theorem wrap64n (n : Nat) (hn : n ≤ 40) : IntKind.i64.wrap (n : Int) = n := by rw [IntKind.wrap_i64]; omega
theorem wrapU64n (n : Nat) (hn : n ≤ 40) : IntKind.u64.wrap (n : Int) = n := by rw [IntKind.wrap_u64]; omega
theorem intInfo : (Tryz.prog.info? 3).map (fun i => (i.zero, i.size, i.bytes)) = some (some (.int .i64 0), 1, 8) := by kernel_rfl
theorem intSize : (Tryz.prog.info? 3).map (·.size) = some 1 := by kernel_rfl
def part (c : Int) (n k : Nat) : List Value := List.replicate k (.int .i64 c) ++ List.replicate (n - k) (.int .i64 0)
theorem part_len {c : Int} {n k : Nat} (h : k ≤ n) : (part c n k).length = n := by simp [part]; omega
theorem part_start (c : Int) (n : Nat) : part c n 0 = List.replicate n (.int .i64 0) := by simp [part]
theorem part_all (c : Int) (n : Nat) : part c n n = List.replicate n (.int .i64 c) := by simp [part]
theorem part_splice {c : Int} {n k m : Nat} (h : k + m ≤ n) : splice (part c n k) k (List.replicate m (.int .i64 c)) = part c n (k + m) := by
  unfold splice part
  rw [List.take_append_of_le_length (by simp), List.take_of_length_le (by simp), List.length_replicate, List.drop_append, List.drop_eq_nil_of_le (by simp), List.length_replicate, List.nil_append, List.drop_replicate, ← List.append_assoc, List.replicate_append_replicate]
  congr 2
  omega
theorem part_get {c : Int} {n k j : Nat} (h : j < k) : (part c n k)[j]? = some (.int .i64 c) := by
  unfold part
  rw [List.getElem?_append_left (by simp [h]), List.getElem?_replicate, if_pos h]
theorem made_zero (n : Nat) : madeCells #[(.int .i64 0 : Value)] n = (List.replicate n (.int .i64 0 : Value)).toArray := by
  refine Array.ext (by simp [madeCells]) fun i h1 h2 => ?_
  simp [madeCells, Nat.mod_one]
theorem addr0 (b j : Nat) : (⟨b, 0, none⟩ : Addr).add j = ⟨b, j, none⟩ := by unfold Addr.add; split <;> simp_all
theorem copyStep {c : Int} {n k m : Nat} {g B : Nat} {w w0 : World} (ad : Addr) (dl dc sl sc : Nat) (new : w.heap[g]? = some (.cells (part c n k).toArray 3 (0, 0))) (hb : Below B w0 w ∧ w0.drawn ≤ w.drawn) (hB : B ≤ g) (hk : k + m ≤ n) (hm : m = Nat.min sl dl)
    (src : ∀ j, j < m → w.cell? (ad.add j) = some (.int .i64 c)) :
    ∃ w', (Builtin.copy_ #[29, 29] 3 #[.slice (some ⟨g, k, none⟩) dl dc, .slice (some ad) sl sc]).run Tryz.prog w = .ok (goInt m) w' ∧ w'.heap[g]? = some (.cells (part c n (k + m)).toArray 3 (0, 0)) ∧ Below B w0 w' ∧ w0.drawn ≤ w'.drawn := by
  have hl : (List.replicate m (Value.int .i64 c)).length = m := by simp
  have c0 := run_copy_row (P := Tryz.prog) w 29 29 3 3 g k dl dc ad sl sc (part c n k).toArray 3 (List.replicate m (.int .i64 c)) Tryz.underlying29 intSize new (by rw [hl, hm])
    (fun j v hv => by
      rw [List.getElem?_replicate] at hv
      split at hv
      · rename_i h
        simp only [Option.some.injEq] at hv
        subst hv; exact src j h
      · cases hv) (by rw [List.size_toArray, part_len (by omega), hl]; omega) (by intro v hv; rw [(List.mem_replicate.1 hv).2]; rfl)
  rw [hl] at c0
  refine ⟨_, c0, ?_, below_setRow hb.1 hB _, hb.2⟩
  rw [setRow_heap w g _ _ _ _ new, ← part_splice hk]
  unfold splice
  simp
theorem repeatRun (w : World) (ad : Addr) (cap : Nat) (c : Int) (n : Nat) (h1 : 1 ≤ n) (hn : n ≤ 40) (hcell : w.cell? ad = some (.int .i64 c)) (hlt : ad.block < w.heap.size) :
    Calls Tryz.prog 73 #[.slice (some ad) 1 cap, .int .i64 n] w fun e w' => e = .returned (.slice (some ⟨w.heap.size, 0, none⟩) n n) ∧
      w'.heap[w.heap.size]? = some (.cells (List.replicate n (Value.int .i64 c)).toArray 3 (0, 0)) ∧ Below w.heap.size w w' ∧ w.drawn ≤ w'.drawn := by
  have e1 := wrap64n n hn
  have e2 := wrapU64n n hn
  have old : (w.alloc (.cells (List.replicate n (.int .i64 0 : Value)).toArray 3)).cell? ad = some (.int .i64 c) := by
    rw [← hcell]; exact World.cell?_alloc_some _ _ _ (by rw [hcell]; rfl)
  have new : (w.alloc (.cells (List.replicate n (.int .i64 0 : Value)).toArray 3)).heap[w.heap.size]? = some (.cells (part c n 0).toArray 3 (0, 0)) := by
    rw [part_start]; unfold World.alloc; exact Array.getElem?_push_size ..
  have b0 : Below w.heap.size w (w.alloc (.cells (List.replicate n (.int .i64 0 : Value)).toArray 3)) ∧ w.drawn ≤ (w.alloc (.cells (List.replicate n (.int .i64 0 : Value)).toArray 3)).drawn := ⟨(Below.refl _ w).alloc (Nat.le_refl _) _, Nat.le_refl _⟩
  go_enter Tryz.func73, Tryz.ntmps73
  go_wp2_with (go_at_call 109; refine (mulOne' n hn _).mono ?_; rintro e w' ⟨rfl, rfl⟩)
  rw [run_make_row' 29 3 (.int .i64 0) 8 Tryz.underlying29 intInfo rfl _ _ n (by omega) (by omega)]
  simp only [Result.andThen]
  rw [Oper.upon_value]
  rw [made_zero]
  generalize w'.alloc (.cells (List.replicate n (.int .i64 0 : Value)).toArray 3) = W at old new b0 ⊢
  obtain ⟨W1, c0, new1, b1⟩ := copyStep (m := 1) ad n n 1 cap new b0 (Nat.le_refl _) (by omega) (Nat.min_eq_left h1).symm (fun j hj => by
    obtain rfl : j = 0 := by omega
    simpa [Addr.add] using old)
  go_wp2
  rw [Nat.zero_add] at new1
  clear c0 new b0 old
  go_loopg [8] n (fun g x wr => ∃ k : Nat, x = .int .i64 k ∧ 1 ≤ k ∧ k ≤ n ∧ n - k ≤ g ∧ Hid (wr.heap[w'.heap.size]? = some (.cells (part c n k).toArray 3 (0, 0))) ∧ Below w'.heap.size w' wr ∧ w'.drawn ≤ wr.drawn)
  case atStart => exact ⟨1, rfl, Nat.le_refl _, h1, by omega, new1, b1⟩
  case round =>
    obtain ⟨k, rfl, k1, kn, kg, new2, b2⟩ := hrel
    have new2 := new2.out
    by_cases hlt : k < n
    · have hltz : (k : Int) < (n : Int) := by omega
      have hnk : ¬ n = k := by omega
      obtain ⟨m, hm⟩ : ∃ m, m = Nat.min k (n - k) := ⟨_, rfl⟩
      have hm1 : m ≤ k := by rw [hm]; exact Nat.min_le_left ..
      have hm2 : m ≤ n - k := by rw [hm]; exact Nat.min_le_right ..
      have hm3 : 1 ≤ m := by rw [hm]; exact Nat.le_min.2 ⟨k1, by omega⟩
      obtain ⟨W2, c2, new3, b3⟩ := copyStep (w := wr.drew) (m := m) ⟨w'.heap.size, 0, none⟩ (n - k) (n - k) k n new2 ⟨Below.drew b2.1, Nat.le_trans b2.2 (Nat.le_succ _)⟩ (Nat.le_refl _) (by omega) hm (fun j hj => by
        rw [addr0]
        show wr.cell? ⟨w'.heap.size, j, none⟩ = _
        simp only [World.cell?, new2]
        simpa using part_get (c := c) (n := n) (k := k) (j := j) (by omega))
      have w3 : IntKind.i64.wrap ((k : Int) + (m : Int)) = ((k + m : Nat) : Int) := by rw [IntKind.wrap_i64]; omega
      clear hm
      go_wp2
      go_region
      go_wp2
      go_roundg (n - (k + m))
      case measure => omega
      case rel => exact ⟨k + m, by simp, by omega, by omega, Nat.le_refl _, new3, b3⟩
    · have hltz : ¬ (k : Int) < (n : Int) := by omega
      obtain rfl : k = n := by omega
      go_wp2
      go_ret
      exact ⟨rfl, by rw [part_all] at new2; simpa using new2, b2⟩
end Go.Proofs.SB
namespace Go.Proofs.YtgkjafmmekjjlaaGreat
open Go.Lg
def tyL : List (Nat × TyI) :=
  [(3, ⟨.int .i64, 1, 8⟩),
   (4, ⟨.bool, 1, 1⟩),
   (5, ⟨.int .u8, 1, 1⟩),
   (9, ⟨.str, 1, 16⟩),
   (20, ⟨.other, 1, 16⟩),
   (21, ⟨.int .i32, 1, 4⟩),
   (22, ⟨.slice 108, 1, 24⟩),
   (23, ⟨.slice 121, 1, 24⟩),
   (25, ⟨.struct [22, 23] [0, 1], 2, 48⟩),
   (27, ⟨.struct [3, 3, 3, 3, 3, 3, 4, 4] [0, 1, 2, 3, 4, 5, 6, 7], 8, 56⟩),
   (29, ⟨.slice 3, 1, 24⟩),
   (31, ⟨.slice 85, 1, 24⟩),
   (32, ⟨.slice 89, 1, 24⟩),
   (34, ⟨.struct [31, 32] [0, 1], 2, 48⟩),
   (36, ⟨.struct [3, 3, 3, 3, 3, 3, 4, 4] [0, 1, 2, 3, 4, 5, 6, 7], 8, 56⟩),
   (48, ⟨.slice 29, 1, 24⟩),
   (53, ⟨.slice 5, 1, 24⟩),
   (67, ⟨.slice 4, 1, 24⟩),
   (72, ⟨.slice 29, 1, 24⟩),
   (74, ⟨.struct [36, 34, 72, 29, 29] [0, 8, 10, 11, 12], 13, 176⟩),
   (78, ⟨.struct [3, 3, 3] [0, 1, 2], 3, 24⟩),
   (85, ⟨.struct [9, 3, 3, 3, 3, 3] [0, 1, 2, 3, 4, 5], 6, 56⟩),
   (89, ⟨.struct [3, 3, 3, 3] [0, 1, 2, 3], 4, 32⟩),
   (97, ⟨.other, 1, 8⟩),
   (102, ⟨.struct [48, 29] [0, 1], 2, 48⟩),
   (103, ⟨.int .u64, 1, 8⟩),
   (104, ⟨.int .u64, 1, 8⟩),
   (106, ⟨.other, 1, 8⟩),
   (108, ⟨.struct [9, 3, 3, 3, 3, 3] [0, 1, 2, 3, 4, 5], 6, 56⟩),
   (121, ⟨.struct [3, 3, 3, 3] [0, 1, 2, 3], 4, 32⟩),
   (123, ⟨.slice 127, 1, 24⟩),
   (125, ⟨.other, 1, 16⟩),
   (127, ⟨.struct [9, 125] [0, 1], 2, 32⟩),
   (129, ⟨.other, 1, 8⟩),
   (131, ⟨.other, 1, 8⟩),
   (134, ⟨.slice 138, 1, 24⟩),
   (136, ⟨.other, 1, 8⟩),
   (138, ⟨.struct [3, 136] [0, 1], 2, 16⟩),
   (143, ⟨.other, 1, 8⟩),
   (153, ⟨.struct [53, 3, 3] [0, 1, 2], 3, 40⟩),
   (154, ⟨.int .u64, 1, 8⟩),
   (160, ⟨.other, 1, 8⟩),
   (162, ⟨.struct [160, 3, 3] [0, 1, 2], 3, 24⟩),
   (163, ⟨.other, 1, 8⟩),
   (165, ⟨.struct [163] [0], 1, 8⟩),
   (177, ⟨.int .u32, 1, 4⟩),
   (185, ⟨.other, 1, 8⟩),
   (187, ⟨.slice 195, 1, 24⟩),
   (190, ⟨.other, 1, 8⟩),
   (195, ⟨.struct [3, 3] [0, 1], 2, 16⟩),
   (200, ⟨.other, 1, 8⟩),
   (203, ⟨.other, 1, 8⟩),
   (208, ⟨.other, 1, 8⟩)]
def zL : List (Nat × LV) :=
  [(3, (.int .i64 0)),
   (4, (.bool false)),
   (5, (.int .u8 0)),
   (9, (.str ⟨#[]⟩)),
   (20, .undef),
   (21, (.int .i32 0)),
   (22, .nil),
   (23, .nil),
   (25, (.st [.nil, .nil])),
   (27, (.st [(.int .i64 0), (.int .i64 0), (.int .i64 0), (.int .i64 0), (.int .i64 0), (.int .i64 0), (.bool false), (.bool false)])),
   (29, .nil),
   (31, .nil),
   (32, .nil),
   (34, (.st [.nil, .nil])),
   (36, (.st [(.int .i64 0), (.int .i64 0), (.int .i64 0), (.int .i64 0), (.int .i64 0), (.int .i64 0), (.bool false), (.bool false)])),
   (48, .nil),
   (53, .nil),
   (67, .nil),
   (72, .nil),
   (74, (.st [(.st [(.int .i64 0), (.int .i64 0), (.int .i64 0), (.int .i64 0), (.int .i64 0), (.int .i64 0), (.bool false), (.bool false)]), (.st [.nil, .nil]), .nil, .nil, .nil])),
   (78, (.st [(.int .i64 0), (.int .i64 0), (.int .i64 0)])),
   (85, (.st [(.str ⟨#[]⟩), (.int .i64 0), (.int .i64 0), (.int .i64 0), (.int .i64 0), (.int .i64 0)])),
   (89, (.st [(.int .i64 0), (.int .i64 0), (.int .i64 0), (.int .i64 0)])),
   (97, .undef),
   (102, (.st [.nil, .nil])),
   (103, (.int .u64 0)),
   (104, (.int .u64 0)),
   (106, .undef),
   (108, (.st [(.str ⟨#[]⟩), (.int .i64 0), (.int .i64 0), (.int .i64 0), (.int .i64 0), (.int .i64 0)])),
   (121, (.st [(.int .i64 0), (.int .i64 0), (.int .i64 0), (.int .i64 0)])),
   (123, .nil),
   (125, .undef),
   (127, (.st [(.str ⟨#[]⟩), .undef])),
   (129, .undef),
   (131, .undef),
   (134, .nil),
   (136, .undef),
   (138, (.st [(.int .i64 0), .undef])),
   (143, .undef),
   (153, (.st [.nil, (.int .i64 0), (.int .i64 0)])),
   (154, (.int .u64 0)),
   (160, .undef),
   (162, (.st [.undef, (.int .i64 0), (.int .i64 0)])),
   (163, .undef),
   (165, (.st [.undef])),
   (177, (.int .u32 0)),
   (185, .undef),
   (187, .nil),
   (190, .undef),
   (195, (.st [(.int .i64 0), (.int .i64 0)])),
   (200, .undef),
   (203, .undef),
   (208, .undef)]
def cL : List (Nat × List (Nat × Nat)) :=
  [(27, [(3, 0), (3, 1), (3, 2), (3, 3), (3, 4), (3, 5), (4, 6), (4, 7)]),
   (36, [(3, 0), (3, 1), (3, 2), (3, 3), (3, 4), (3, 5), (4, 6), (4, 7)]),
   (78, [(3, 0), (3, 1), (3, 2)]),
   (85, [(9, 0), (3, 1), (3, 2), (3, 3), (3, 4), (3, 5)]),
   (89, [(3, 0), (3, 1), (3, 2), (3, 3)]),
   (108, [(9, 0), (3, 1), (3, 2), (3, 3), (3, 4), (3, 5)]),
   (121, [(3, 0), (3, 1), (3, 2), (3, 3)]),
   (195, [(3, 0), (3, 1)])]
def mL : MTab :=
  [(162, "loop.example/g03221/impl.isValid", 204),
   (165, "loop.example/g03221/impl.isValid", 207)]
def bL : List (Nat × Nat) := []
def mpL : List (TypeId × MK × TypeId × TypeId) := []
noncomputable def env : Env := { P := Tryz.prog, T := lookT tyL, Z := lookT zL, C := lookT cL, M := mL, bd := bL, mp := mpL }
theorem tyL_ok : tyL.all (fun x => tyOKB Tryz.prog x.1 x.2) = true := by kernel_rfl
theorem zL_ok : zL.all (fun x => zOKB Tryz.prog x.1 x.2) = true := by kernel_rfl
theorem cL_ok : cL.all (fun x => cmpB Tryz.prog x.1 x.2) = true := by kernel_rfl
theorem mL_ok : mL.all (fun x => methB Tryz.prog x.1 x.2.1 x.2.2) = true := by kernel_rfl
theorem bL_ok : bL.all (fun x => bdOKB Tryz.prog x.1) = true := by kernel_rfl
theorem mpL_ok : mpL.all (mpB Tryz.prog) = true := by kernel_rfl
theorem laid_ok : laidOutB Tryz.prog = true := by kernel_rfl
instance gi : GI := { low := 0, F := fun _ => True, keepF := fun _ _ _ => trivial }
theorem gi_of {W : World} (h : W.ShapedOpen Tryz.prog) : GI.I W.heap.size W := ⟨Nat.zero_le _, trivial⟩
theorem env_ok : EnvOK env := ⟨TabOK_of tyL_ok, ZOK_of zL_ok, by kernel_rfl, COK_of cL_ok, MOK_of mL_ok, BdOK_of bL_ok, MpOK_of mpL_ok laid_ok⟩
end Go.Proofs.YtgkjafmmekjjlaaGreat
namespace Go.Proofs.YtgkjafmmekjjlaaGreat
open Go.Lg Go.RowKit
theorem sim_none {X : Nat → Prop} {B : Nat} {w : World} {pl : Nat → PV} (g : Go.Lg.Good X B ⟨w, [], pl⟩ [] pl w) : Sim X B ⟨w, [], pl⟩ ⟨[], []⟩ ⟨#[], []⟩ w pl :=
  ⟨g, rfl, rfl, fun t x h => by simp at h, ⟨Nat.le_refl _, fun _ _ _ => rfl, fun _ _ h => h, fun _ _ _ h => h, fun _ _ _ _ h => h⟩⟩
theorem RCs_ints (ρ : Ctx) (c : Int) : ∀ n, RCs ρ (List.replicate n (LV.int .i64 c)) (List.replicate n (Value.int .i64 c))
  | 0 => by simp only [List.replicate, RCs]
  | n + 1 => by
    simp only [List.replicate, RCs]
    exact ⟨[.int .i64 c], List.replicate n (.int .i64 c), rfl, by simp only [RC], RCs_ints ρ c n⟩
theorem repeat_h (c : Int) (n : Nat) (h1 : 1 ≤ n) (hn : n ≤ 40) :
    HSpec env.P 73 [.sl [.int .i64 c], .int .i64 (n : Int)] [] (.hs 0 (List.replicate n (LV.int .i64 c)).length) [.arr 3 1 (List.replicate n (LV.int .i64 c))] := by
  unfold HSpec
  refine ⟨Tryz.call73, fun X B w vs pl g hsz hargs => ?_⟩
  obtain ⟨v0, v1, rfl⟩ : ∃ v0 v1, vs = #[v0, v1] := by
    obtain ⟨vl⟩ := vs
    match vl, hsz with
    | [a, b], _ => exact ⟨a, b, rfl⟩
  have a0 := hargs 0 _ v0 rfl rfl
  have a1 := hargs 1 _ v1 rfl rfl
  simp only [RT, RT1, RC, RCs] at a0 a1
  simp only [List.cons.injEq, and_true] at a0 a1
  obtain ⟨a, cap, rfl, hc1, hc2, hz | ⟨ad, es, k, rfl, hb, ho, ⟨c1, c2, rfl, rfl, rfl⟩, hcells, hk⟩⟩ := a0
  · cases hz
  subst a1
  have hcell : w.cell? ad = some (.int .i64 c) := by
    have := hcells.2 0 (.int .i64 c) (by simp)
    change w.cell? _ = _ at this
    obtain ⟨blk, off, spot⟩ := ad
    have hs : spot = none := hcells.1
    subst hs
    simpa using this
  refine (SB.repeatRun w ad cap c n h1 hn hcell hb).mono ?_
  rintro e w' ⟨rfl, hrow, hbel0, hinc⟩
  have hbel : Go.Lg.Below w.heap.size w w' := ⟨hbel0.os, hbel0.tape, hbel0.output, hbel0.size, hbel0.block, hinc⟩
  have hl : (List.replicate n (LV.int .i64 c)).length = n := by simp
  have hown : w'.ownsRow B 3 1 (.slice (some ⟨w.heap.size, 0, none⟩) (List.replicate n (LV.int .i64 c)).length n) (List.replicate n (LV.int .i64 c)).length (List.replicate n (Value.int .i64 c)) := by
    rw [hl]
    exact ⟨by simp, .inr ⟨_, n, _, rfl, g.base.1, hrow, Nat.le_refl _, by unfold Go.maxLen; omega, by simp, by simp [List.take_replicate]⟩⟩
  obtain ⟨pl', s', r', le'⟩ := sim_newArr (sim_none g) (e := 3) (k := 1) (cap := n) (xs := List.replicate n (LV.int .i64 c)) (es := List.replicate n (Value.int .i64 c)) hbel hown (RCs_ints _ c n)
    (by intro x hx; rw [(List.mem_replicate.1 hx).2]; rfl) (by omega)
  rw [hl] at r'
  refine ⟨_, pl', rfl, s'.good, ?_, le'⟩
  rw [hl]; exact r'
end Go.Proofs.YtgkjafmmekjjlaaGreat
namespace Go.Proofs.YtgkjafmmekjjlaaGreat
open Go.Lg
structure Per where
  name : ByteArray
  sex : Int
  father : Int
  mother : Int
  born : Int
  died : Int
def Per.lv (p : Per) : LV := .st [.str p.name, .int .i64 p.sex, .int .i64 p.father, .int .i64 p.mother, .int .i64 p.born, .int .i64 p.died]
def Per.eq (p q : Per) : Bool := eqS p.name q.name && (eqI p.sex q.sex && (eqI p.father q.father && (eqI p.mother q.mother && (eqI p.born q.born && (eqI p.died q.died && true)))))
structure Uni where
  husband : Int
  wife : Int
  since : Int
  till : Int
def Uni.lv (p : Uni) : LV := .st [.int .i64 p.husband, .int .i64 p.wife, .int .i64 p.since, .int .i64 p.till]
def Uni.eq (p q : Uni) : Bool := eqI p.husband q.husband && (eqI p.wife q.wife && (eqI p.since q.since && (eqI p.till q.till && true)))
def eqList {α : Type} (eq : α → α → Bool) : List α → List α → Bool
  | [], [] => true
  | x :: xs, y :: ys => eq x y && eqList eq xs ys
  | _, _ => false
def eqTo {α : Type} (eq : α → α → Bool) (xs ys : List α) (k : Nat) : Prop := ∀ j x y, j < k → xs[j]? = some x → ys[j]? = some y → eq x y = true
theorem eqTo.succ {α : Type} {eq : α → α → Bool} {xs ys : List α} {k : Nat} (h : eqTo eq xs ys k) {x y : α} (hx : xs[k]? = some x) (hy : ys[k]? = some y) (e : eq x y = true) : eqTo eq xs ys (k + 1) := by
  intro j x' y' hj hx' hy'
  by_cases ej : j = k
  · subst ej
    rw [hx] at hx'
    rw [hy] at hy'
    cases hx'; cases hy'
    exact e
  · exact h j x' y' (by omega) hx' hy'
theorem eqTo.all {α : Type} {eq : α → α → Bool} : ∀ {xs ys : List α}, xs.length = ys.length → eqTo eq xs ys xs.length → eqList eq xs ys = true
  | [], [], _, _ => rfl
  | [], _ :: _, hl, _ => by simp at hl
  | _ :: _, [], hl, _ => by simp at hl
  | x :: xs, y :: ys, hl, h => by
    simp only [eqList, Bool.and_eq_true]
    refine ⟨h 0 x y (by simp) rfl rfl, eqTo.all (by simpa using hl) fun j x' y' hj hx hy => h (j + 1) x' y' (by simpa using hj) (by simpa using hx) (by simpa using hy)⟩
theorem eqList_no {α : Type} {eq : α → α → Bool} : ∀ {xs ys : List α} {k : Nat} {x y : α}, xs[k]? = some x → ys[k]? = some y → eq x y = false → eqList eq xs ys = false
  | [], _, k, _, _, h, _, _ => by simp at h
  | _ :: _, [], k, _, _, _, h, _ => by simp at h
  | a :: xs, b :: ys, 0, x, y, h1, h2, h3 => by simp at h1 h2; subst h1; subst h2; simp [eqList, h3]
  | a :: xs, b :: ys, k + 1, x, y, h1, h2, h3 => by
    simp only [eqList]
    rw [eqList_no (k := k) (by simpa using h1) (by simpa using h2) h3]
    simp
theorem eqList_len {α : Type} {eq : α → α → Bool} : ∀ {xs ys : List α}, xs.length ≠ ys.length → eqList eq xs ys = false
  | [], [], h => absurd rfl h
  | [], _ :: _, _ => rfl
  | _ :: _, [], _ => rfl
  | x :: xs, y :: ys, h => by simp only [eqList]; rw [eqList_len (by simpa using h)]; simp
def famLV (ps : List Per) (us : List Uni) : LV := .st [.sl (ps.map Per.lv), .sl (us.map Uni.lv)]
theorem eqI_len {α : Type} {xs ys : List α} {f : α → LV} (h : eqI ((xs.map f).length : Int) ((ys.map f).length : Int) = true) : xs.length = ys.length := by
  rw [eqI_t] at h; simp at h; omega
theorem eqI_nolen {α : Type} {xs ys : List α} {f : α → LV} (h : eqI ((xs.map f).length : Int) ((ys.map f).length : Int) = false) : xs.length ≠ ys.length := by
  rw [eqI_f] at h; simp at h; omega
end Go.Proofs.YtgkjafmmekjjlaaGreat
namespace Go.Proofs.YtgkjafmmekjjlaaGreat
open Go.Lg
theorem toPerson_spec (p : Per) : FSpec env.P 85 [p.lv] p.lv := by
  refine FSpec_of_code env_ok (fn := Tryz.f85) Tryz.func85 rfl Tryz.call85 _ _ ?_
  ((repeat ((conv => whnf); first | refine brT ?_ | refine brF ?_)); conv => whnf)
  refine ⟨_, rfl, rfl, ?_⟩
  repeat ((conv => whnf); refine ⟨rfl, ?_⟩)
  exact List.nodup_nil
theorem toUnion_spec (p : Uni) : FSpec env.P 86 [p.lv] p.lv := by
  refine FSpec_of_code env_ok (fn := Tryz.f86) Tryz.func86 rfl Tryz.call86 _ _ ?_
  ((repeat ((conv => whnf); first | refine brT ?_ | refine brF ?_)); conv => whnf)
  refine ⟨_, rfl, rfl, ?_⟩
  repeat ((conv => whnf); refine ⟨rfl, ?_⟩)
  exact List.nodup_nil
def szPer (n : Int) (p : Per) : Int := match ltI (IntKind.i64.wrap (n - (p.name.size : Int))) 0 with | true => -1 | false => IntKind.i64.wrap (n - (p.name.size : Int))
theorem szPerson_spec (p : Per) (n : Int) : FSpec env.P 75 [p.lv, .int .i64 n] (.int .i64 (szPer n p)) := by
  refine FSpec_of_code env_ok (fn := Tryz.f75) Tryz.func75 rfl Tryz.call75 _ _ ?_
  ((repeat ((conv => whnf); first | refine brT ?_ | refine brF ?_)); conv => whnf)
  intro hn
  ((repeat ((conv => whnf); first | refine brT ?_ | refine brF ?_)); conv => whnf)
  refine ⟨fun h => ?_, fun h => ?_⟩ <;> rw [h] <;> ((repeat ((conv => whnf); first | refine brT ?_ | refine brF ?_)); conv => whnf) <;> refine ⟨rfl, ?_, List.nodup_nil⟩ <;> simp only [szPer, h]
def szUnis (n : Int) (us : List Uni) : Int := match ltI (IntKind.i64.wrap (n - (us.length : Int))) 0 with | true => -1 | false => IntKind.i64.wrap (n - (us.length : Int))
theorem szUnionS_spec (us : List Uni) (n : Int) : FSpec env.P 41 [.sl (us.map Uni.lv), .int .i64 n] (.int .i64 (szUnis n us)) := by
  refine FSpec_of_code env_ok (fn := Tryz.f41) Tryz.func41 rfl Tryz.call41 _ _ ?_
  ((repeat ((conv => whnf); first | refine brT ?_ | refine brF ?_)); conv => whnf)
  intro hn
  ((repeat ((conv => whnf); first | refine brT ?_ | refine brF ?_)); conv => whnf)
  have e : ((us.map Uni.lv).length : Int) = (us.length : Int) := by simp
  rw [e]
  refine ⟨fun h => ?_, fun h => ?_⟩ <;> rw [h] <;> ((repeat ((conv => whnf); first | refine brT ?_ | refine brF ?_)); conv => whnf) <;> refine ⟨rfl, ?_, List.nodup_nil⟩ <;> simp only [szUnis, h] <;> simp
def szFold : Int → List Per → Int
  | n, [] => n
  | n, p :: ps => match ltI (szPer n p) 0 with | true => -1 | false => szFold (szPer n p) ps
def szPers (n : Int) (ps : List Per) : Int := match ltI (IntKind.i64.wrap (n - (ps.length : Int))) 0 with | true => -1 | false => szFold (IntKind.i64.wrap (n - (ps.length : Int))) ps
theorem szPersonS_spec (ps : List Per) (n : Int) : FSpec env.P 40 [.sl (ps.map Per.lv), .int .i64 n] (.int .i64 (szPers n ps)) := by
  refine FSpec_of_code env_ok (fn := Tryz.f40) Tryz.func40 rfl Tryz.call40 _ _ ?_
  ((repeat ((conv => whnf); first | refine brT ?_ | refine brF ?_)); conv => whnf)
  intro hn
  ((repeat ((conv => whnf); first | refine brT ?_ | refine brF ?_)); conv => whnf)
  have e : ((ps.map Per.lv).length : Int) = (ps.length : Int) := by simp
  have hp' : ps.length ≤ Go.maxLen := by simpa using hn
  rw [e]
  refine ⟨fun h => ?_, fun h => ?_⟩ <;> rw [h]
  · ((repeat ((conv => whnf); first | refine brT ?_ | refine brF ?_)); conv => whnf)
    refine ⟨rfl, ?_, List.nodup_nil⟩
    simp only [szPers, h]
  ((repeat ((conv => whnf); first | refine brT ?_ | refine brF ?_)); conv => whnf)
  refine loop_rule (α := Nat × Int) (fun x => [(1, .int .i64 x.2), (5, .int .i64 (x.1 : Int))]) (fun _ => []) (fun x => ps.length - x.1)
    (fun x => x.1 ≤ ps.length ∧ szFold x.2 (ps.drop x.1) = szPers n ps) (0, IntKind.i64.wrap (n - (ps.length : Int))) ⟨Nat.zero_le _, by simp only [szPers, h, List.drop_zero]⟩ ?_ ?_
  · refine ⟨?_, trivial, rfl, rfl⟩
    repeat ((conv => whnf); refine ⟨rfl, ?_⟩)
    trivial
  rintro ⟨k, c⟩ ⟨hk, hc⟩
  ((repeat ((conv => whnf); first | refine brT ?_ | refine brF ?_)); conv => whnf)
  intro _
  ((repeat ((conv => whnf); first | refine brT ?_ | refine brF ?_)); conv => whnf)
  rw [e]
  refine ⟨fun h1 => ?_, fun h1 => ?_⟩ <;> rw [h1]
  · have hlt : k < ps.length := by rw [ltI_t] at h1; simp at h1; omega
    have hd : ps.drop k = ps[k] :: ps.drop (k + 1) := List.drop_eq_getElem_cons hlt
    simp only [hd, szFold] at hc
    ((repeat ((conv => whnf); first | refine brT ?_ | refine brF ?_)); conv => whnf)
    refine ⟨k, ps[k].lv, rfl, by simp [hlt], rfl, ?_⟩
    ((repeat ((conv => whnf); first | refine brT ?_ | refine brF ?_)); conv => whnf)
    refine ⟨_, szPerson_spec ps[k] c, ?_⟩
    ((repeat ((conv => whnf); first | refine brT ?_ | refine brF ?_)); conv => whnf)
    refine ⟨fun h2 => ?_, fun h2 => ?_⟩ <;> rw [h2]
    · ((repeat ((conv => whnf); first | refine brT ?_ | refine brF ?_)); conv => whnf)
      refine ⟨rfl, ?_, List.nodup_nil⟩
      rw [← hc, h2]
    · rw [h2] at hc
      ((repeat ((conv => whnf); first | refine brT ?_ | refine brF ?_)); conv => whnf)
      refine round_end (k + 1, szPer c ps[k]) ⟨hlt, hc⟩ (by simp only; omega) ⟨?_, trivial, rfl, rfl⟩
      have e := step_i hlt hp'
      repeat ((conv => whnf); first | refine ⟨e, ?_⟩ | refine ⟨rfl, ?_⟩)
      trivial
  · have h3 : ps.length ≤ k := by rw [ltI_f] at h1; simp at h1; omega
    ((repeat ((conv => whnf); first | refine brT ?_ | refine brF ?_)); conv => whnf)
    refine ⟨rfl, ?_, List.nodup_nil⟩
    rw [← hc, List.drop_eq_nil_of_le h3]
    rfl
def szFam (n : Int) (ps : List Per) (us : List Uni) : Int := match ltI (szPers n ps) 0 with
  | true => -1
  | false => match ltI (szUnis (szPers n ps) us) 0 with | true => -1 | false => szUnis (szPers n ps) us
theorem szFamily_spec (ps : List Per) (us : List Uni) (n : Int) : FSpec env.P 9 [famLV ps us, .int .i64 n] (.int .i64 (szFam n ps us)) := by
  refine FSpec_of_code env_ok (fn := Tryz.f9) Tryz.func9 rfl Tryz.call9 _ _ ?_
  ((repeat ((conv => whnf); first | refine brT ?_ | refine brF ?_)); conv => whnf)
  refine ⟨_, szPersonS_spec ps n, ?_⟩
  ((repeat ((conv => whnf); first | refine brT ?_ | refine brF ?_)); conv => whnf)
  refine ⟨fun h => ?_, fun h => ?_⟩ <;> rw [h]
  · ((repeat ((conv => whnf); first | refine brT ?_ | refine brF ?_)); conv => whnf)
    refine ⟨rfl, ?_, List.nodup_nil⟩
    simp only [szFam, h]
  ((repeat ((conv => whnf); first | refine brT ?_ | refine brF ?_)); conv => whnf)
  refine ⟨_, szUnionS_spec us _, ?_⟩
  ((repeat ((conv => whnf); first | refine brT ?_ | refine brF ?_)); conv => whnf)
  refine ⟨fun h2 => ?_, fun h2 => ?_⟩ <;> rw [h2] <;> ((repeat ((conv => whnf); first | refine brT ?_ | refine brF ?_)); conv => whnf) <;> refine ⟨rfl, ?_, List.nodup_nil⟩ <;> simp only [szFam, h, h2]
theorem eqPerson_spec (p q : Per) : FSpec env.P 94 [p.lv, q.lv] (.bool (p.eq q)) := by
  refine FSpec_of_code env_ok (fn := Tryz.f94) Tryz.func94 rfl Tryz.call94 _ _ ?_
  ((repeat ((conv => whnf); first | refine brT ?_ | refine brF ?_)); conv => whnf)
  refine ⟨fun h => ?_, fun h => ?_⟩ <;> rw [h]
  · ((repeat ((conv => whnf); first | refine brT ?_ | refine brF ?_)); conv => whnf); rw [notB_t] at h; refine fin ?_; simp [Per.eq, h]
  rw [notB_f] at h
  ((repeat ((conv => whnf); first | refine brT ?_ | refine brF ?_)); conv => whnf)
  refine ⟨fun h1 => ?_, fun h1 => ?_⟩ <;> rw [h1]
  · ((repeat ((conv => whnf); first | refine brT ?_ | refine brF ?_)); conv => whnf); rw [notB_t] at h1; refine fin ?_; simp [Per.eq, h1]
  rw [notB_f] at h1
  ((repeat ((conv => whnf); first | refine brT ?_ | refine brF ?_)); conv => whnf)
  refine ⟨fun h2 => ?_, fun h2 => ?_⟩ <;> rw [h2]
  · ((repeat ((conv => whnf); first | refine brT ?_ | refine brF ?_)); conv => whnf); rw [notB_t] at h2; refine fin ?_; simp [Per.eq, h2]
  rw [notB_f] at h2
  ((repeat ((conv => whnf); first | refine brT ?_ | refine brF ?_)); conv => whnf)
  refine ⟨fun h3 => ?_, fun h3 => ?_⟩ <;> rw [h3]
  · ((repeat ((conv => whnf); first | refine brT ?_ | refine brF ?_)); conv => whnf); rw [notB_t] at h3; refine fin ?_; simp [Per.eq, h3]
  rw [notB_f] at h3
  ((repeat ((conv => whnf); first | refine brT ?_ | refine brF ?_)); conv => whnf)
  refine ⟨fun h4 => ?_, fun h4 => ?_⟩ <;> rw [h4]
  · ((repeat ((conv => whnf); first | refine brT ?_ | refine brF ?_)); conv => whnf); rw [notB_t] at h4; refine fin ?_; simp [Per.eq, h4]
  rw [notB_f] at h4
  ((repeat ((conv => whnf); first | refine brT ?_ | refine brF ?_)); conv => whnf)
  refine ⟨fun h5 => ?_, fun h5 => ?_⟩ <;> rw [h5]
  · ((repeat ((conv => whnf); first | refine brT ?_ | refine brF ?_)); conv => whnf); rw [notB_t] at h5; refine fin ?_; simp [Per.eq, h5]
  rw [notB_f] at h5
  ((repeat ((conv => whnf); first | refine brT ?_ | refine brF ?_)); conv => whnf)
  refine fin ?_
  simp [Per.eq, h, h1, h2, h3, h4, h5]
theorem eqUnion_spec (p q : Uni) : FSpec env.P 95 [p.lv, q.lv] (.bool (p.eq q)) := by
  refine FSpec_of_code env_ok (fn := Tryz.f95) Tryz.func95 rfl Tryz.call95 _ _ ?_
  ((repeat ((conv => whnf); first | refine brT ?_ | refine brF ?_)); conv => whnf)
  refine ⟨fun h => ?_, fun h => ?_⟩ <;> rw [h]
  · ((repeat ((conv => whnf); first | refine brT ?_ | refine brF ?_)); conv => whnf); rw [notB_t] at h; refine fin ?_; simp [Uni.eq, h]
  rw [notB_f] at h
  ((repeat ((conv => whnf); first | refine brT ?_ | refine brF ?_)); conv => whnf)
  refine ⟨fun h1 => ?_, fun h1 => ?_⟩ <;> rw [h1]
  · ((repeat ((conv => whnf); first | refine brT ?_ | refine brF ?_)); conv => whnf); rw [notB_t] at h1; refine fin ?_; simp [Uni.eq, h1]
  rw [notB_f] at h1
  ((repeat ((conv => whnf); first | refine brT ?_ | refine brF ?_)); conv => whnf)
  refine ⟨fun h2 => ?_, fun h2 => ?_⟩ <;> rw [h2]
  · ((repeat ((conv => whnf); first | refine brT ?_ | refine brF ?_)); conv => whnf); rw [notB_t] at h2; refine fin ?_; simp [Uni.eq, h2]
  rw [notB_f] at h2
  ((repeat ((conv => whnf); first | refine brT ?_ | refine brF ?_)); conv => whnf)
  refine ⟨fun h3 => ?_, fun h3 => ?_⟩ <;> rw [h3]
  · ((repeat ((conv => whnf); first | refine brT ?_ | refine brF ?_)); conv => whnf); rw [notB_t] at h3; refine fin ?_; simp [Uni.eq, h3]
  rw [notB_f] at h3
  ((repeat ((conv => whnf); first | refine brT ?_ | refine brF ?_)); conv => whnf)
  refine fin ?_
  simp [Uni.eq, h, h1, h2, h3]
end Go.Proofs.YtgkjafmmekjjlaaGreat
namespace Go.Proofs.YtgkjafmmekjjlaaGreat
open Go.Lg
theorem eqPersonS_spec (ps qs : List Per) : FSpec env.P 52 [.sl (ps.map Per.lv), .sl (qs.map Per.lv)] (.bool (eqList Per.eq ps qs)) := by
  refine FSpec_of_code env_ok (fn := Tryz.f52) Tryz.func52 rfl Tryz.call52 _ _ ?_
  ((repeat ((conv => whnf); first | refine brT ?_ | refine brF ?_)); conv => whnf)
  intro hp
  ((repeat ((conv => whnf); first | refine brT ?_ | refine brF ?_)); conv => whnf)
  intro hq
  ((repeat ((conv => whnf); first | refine brT ?_ | refine brF ?_)); conv => whnf)
  refine ⟨fun h => ?_, fun h => ?_⟩ <;> rw [h]
  · ((repeat ((conv => whnf); first | refine brT ?_ | refine brF ?_)); conv => whnf)
    refine fin ?_
    rw [notB_t] at h
    rw [eqList_len (eqI_nolen h)]
  rw [notB_f] at h
  have hl := eqI_len h
  have hp' : ps.length ≤ Go.maxLen := by simpa using hp
  ((repeat ((conv => whnf); first | refine brT ?_ | refine brF ?_)); conv => whnf)
  refine loop_rule (α := Nat) (fun k => [(5, .int .i64 (k : Int))]) (fun _ => []) (fun k => ps.length - k) (fun k => k ≤ ps.length ∧ eqTo Per.eq ps qs k) 0 ⟨Nat.zero_le _, fun _ _ _ h => absurd h (Nat.not_lt_zero _)⟩ ?_ ?_
  · refine ⟨?_, trivial, rfl, rfl⟩
    repeat ((conv => whnf); refine ⟨rfl, ?_⟩)
    trivial
  rintro k ⟨hk, he⟩
  ((repeat ((conv => whnf); first | refine brT ?_ | refine brF ?_)); conv => whnf)
  intro _
  ((repeat ((conv => whnf); first | refine brT ?_ | refine brF ?_)); conv => whnf)
  refine ⟨fun h1 => ?_, fun h1 => ?_⟩ <;> rw [h1]
  · have hlt : k < ps.length := by rw [ltI_t] at h1; simp at h1; omega
    have hlt2 : k < qs.length := by omega
    ((repeat ((conv => whnf); first | refine brT ?_ | refine brF ?_)); conv => whnf)
    refine ⟨true, by kernel_rfl, ?_⟩
    ((repeat ((conv => whnf); first | refine brT ?_ | refine brF ?_)); conv => whnf)
    refine ⟨k, ps[k].lv, rfl, by simp [hlt], rfl, ?_⟩
    ((repeat ((conv => whnf); first | refine brT ?_ | refine brF ?_)); conv => whnf)
    refine ⟨k, qs[k].lv, rfl, by simp [hlt2], rfl, ?_⟩
    ((repeat ((conv => whnf); first | refine brT ?_ | refine brF ?_)); conv => whnf)
    refine ⟨_, eqPerson_spec ps[k] qs[k], ?_⟩
    ((repeat ((conv => whnf); first | refine brT ?_ | refine brF ?_)); conv => whnf)
    refine ⟨fun h3 => ?_, fun h3 => ?_⟩ <;> rw [h3]
    · rw [notB_t] at h3
      ((repeat ((conv => whnf); first | refine brT ?_ | refine brF ?_)); conv => whnf)
      refine fin ?_
      rw [eqList_no (k := k) (x := ps[k]) (y := qs[k]) (by simp [hlt]) (by simp [hlt2]) h3]
    · rw [notB_f] at h3
      ((repeat ((conv => whnf); first | refine brT ?_ | refine brF ?_)); conv => whnf)
      refine round_end (k + 1) ⟨hlt, he.succ (x := ps[k]) (y := qs[k]) (by simp [hlt]) (by simp [hlt2]) h3⟩ (by omega) ⟨?_, trivial, rfl, rfl⟩
      have e := step_i hlt hp'
      repeat ((conv => whnf); first | refine ⟨e, ?_⟩ | refine ⟨rfl, ?_⟩)
      trivial
  · have h3 : ps.length ≤ k := by rw [ltI_f] at h1; simp at h1; omega
    have h4 : k = ps.length := by omega
    subst h4
    ((repeat ((conv => whnf); first | refine brT ?_ | refine brF ?_)); conv => whnf)
    refine fin ?_
    rw [eqTo.all hl he]
theorem eqUnionS_spec (ps qs : List Uni) : FSpec env.P 53 [.sl (ps.map Uni.lv), .sl (qs.map Uni.lv)] (.bool (eqList Uni.eq ps qs)) := by
  refine FSpec_of_code env_ok (fn := Tryz.f53) Tryz.func53 rfl Tryz.call53 _ _ ?_
  ((repeat ((conv => whnf); first | refine brT ?_ | refine brF ?_)); conv => whnf)
  intro hp
  ((repeat ((conv => whnf); first | refine brT ?_ | refine brF ?_)); conv => whnf)
  intro hq
  ((repeat ((conv => whnf); first | refine brT ?_ | refine brF ?_)); conv => whnf)
  refine ⟨fun h => ?_, fun h => ?_⟩ <;> rw [h]
  · ((repeat ((conv => whnf); first | refine brT ?_ | refine brF ?_)); conv => whnf)
    refine fin ?_
    rw [notB_t] at h
    rw [eqList_len (eqI_nolen h)]
  rw [notB_f] at h
  have hl := eqI_len h
  have hp' : ps.length ≤ Go.maxLen := by simpa using hp
  ((repeat ((conv => whnf); first | refine brT ?_ | refine brF ?_)); conv => whnf)
  refine loop_rule (α := Nat) (fun k => [(5, .int .i64 (k : Int))]) (fun _ => []) (fun k => ps.length - k) (fun k => k ≤ ps.length ∧ eqTo Uni.eq ps qs k) 0 ⟨Nat.zero_le _, fun _ _ _ h => absurd h (Nat.not_lt_zero _)⟩ ?_ ?_
  · refine ⟨?_, trivial, rfl, rfl⟩
    repeat ((conv => whnf); refine ⟨rfl, ?_⟩)
    trivial
  rintro k ⟨hk, he⟩
  ((repeat ((conv => whnf); first | refine brT ?_ | refine brF ?_)); conv => whnf)
  intro _
  ((repeat ((conv => whnf); first | refine brT ?_ | refine brF ?_)); conv => whnf)
  refine ⟨fun h1 => ?_, fun h1 => ?_⟩ <;> rw [h1]
  · have hlt : k < ps.length := by rw [ltI_t] at h1; simp at h1; omega
    have hlt2 : k < qs.length := by omega
    ((repeat ((conv => whnf); first | refine brT ?_ | refine brF ?_)); conv => whnf)
    refine ⟨true, by kernel_rfl, ?_⟩
    ((repeat ((conv => whnf); first | refine brT ?_ | refine brF ?_)); conv => whnf)
    refine ⟨k, ps[k].lv, rfl, by simp [hlt], rfl, ?_⟩
    ((repeat ((conv => whnf); first | refine brT ?_ | refine brF ?_)); conv => whnf)
    refine ⟨k, qs[k].lv, rfl, by simp [hlt2], rfl, ?_⟩
    ((repeat ((conv => whnf); first | refine brT ?_ | refine brF ?_)); conv => whnf)
    refine ⟨_, eqUnion_spec ps[k] qs[k], ?_⟩
    ((repeat ((conv => whnf); first | refine brT ?_ | refine brF ?_)); conv => whnf)
    refine ⟨fun h3 => ?_, fun h3 => ?_⟩ <;> rw [h3]
    · rw [notB_t] at h3
      ((repeat ((conv => whnf); first | refine brT ?_ | refine brF ?_)); conv => whnf)
      refine fin ?_
      rw [eqList_no (k := k) (x := ps[k]) (y := qs[k]) (by simp [hlt]) (by simp [hlt2]) h3]
    · rw [notB_f] at h3
      ((repeat ((conv => whnf); first | refine brT ?_ | refine brF ?_)); conv => whnf)
      refine round_end (k + 1) ⟨hlt, he.succ (x := ps[k]) (y := qs[k]) (by simp [hlt]) (by simp [hlt2]) h3⟩ (by omega) ⟨?_, trivial, rfl, rfl⟩
      have e := step_i hlt hp'
      repeat ((conv => whnf); first | refine ⟨e, ?_⟩ | refine ⟨rfl, ?_⟩)
      trivial
  · have h3 : ps.length ≤ k := by rw [ltI_f] at h1; simp at h1; omega
    have h4 : k = ps.length := by omega
    subst h4
    ((repeat ((conv => whnf); first | refine brT ?_ | refine brF ?_)); conv => whnf)
    refine fin ?_
    rw [eqTo.all hl he]
def eqFam (ps qs : List Per) (us vs : List Uni) : Bool := eqList Per.eq ps qs && eqList Uni.eq us vs
theorem eqFamily_spec (ps qs : List Per) (us vs : List Uni) : FSpec env.P 15 [famLV ps us, famLV qs vs] (.bool (eqFam ps qs us vs)) := by
  refine FSpec_of_code env_ok (fn := Tryz.f15) Tryz.func15 rfl Tryz.call15 _ _ ?_
  ((repeat ((conv => whnf); first | refine brT ?_ | refine brF ?_)); conv => whnf)
  refine ⟨_, eqPersonS_spec ps qs, ?_⟩
  ((repeat ((conv => whnf); first | refine brT ?_ | refine brF ?_)); conv => whnf)
  refine ⟨fun h => ?_, fun h => ?_⟩ <;> rw [h]
  · ((repeat ((conv => whnf); first | refine brT ?_ | refine brF ?_)); conv => whnf); rw [notB_t] at h; refine fin ?_; simp [eqFam, h]
  rw [notB_f] at h
  ((repeat ((conv => whnf); first | refine brT ?_ | refine brF ?_)); conv => whnf)
  refine ⟨_, eqUnionS_spec us vs, ?_⟩
  ((repeat ((conv => whnf); first | refine brT ?_ | refine brF ?_)); conv => whnf)
  refine ⟨fun h1 => ?_, fun h1 => ?_⟩ <;> rw [h1]
  · ((repeat ((conv => whnf); first | refine brT ?_ | refine brF ?_)); conv => whnf); rw [notB_t] at h1; refine fin ?_; simp [eqFam, h1]
  rw [notB_f] at h1
  ((repeat ((conv => whnf); first | refine brT ?_ | refine brF ?_)); conv => whnf)
  refine fin ?_
  simp [eqFam, h, h1]
def fillLV {α : Type} (lv : α → LV) (z : LV) (ps : List α) (k : Nat) : List LV := (ps.take k).map lv ++ List.replicate (ps.length - k) z
theorem fill_len {α : Type} {lv : α → LV} {z : LV} {ps : List α} {k : Nat} (h : k ≤ ps.length) : (fillLV lv z ps k).length = ps.length := by simp [fillLV]; omega
theorem fill_get {α : Type} {lv : α → LV} {z : LV} {ps : List α} {k : Nat} (h : k < ps.length) : (fillLV lv z ps k)[k]? = some z := by
  unfold fillLV
  rw [List.getElem?_append_right (by simp; omega)]
  have : k - ((ps.take k).map lv).length = 0 := by simp; omega
  rw [this]
  have h2 : ps.length - k = (ps.length - k - 1) + 1 := by omega
  rw [h2, List.replicate_succ]
  rfl
theorem fill_set {α : Type} {lv : α → LV} {z : LV} {ps : List α} {k : Nat} (h : k < ps.length) : (fillLV lv z ps k).set k (lv ps[k]) = fillLV lv z ps (k + 1) := by
  apply List.ext_getElem?
  intro j
  unfold fillLV
  rw [List.getElem?_set]
  by_cases e : k = j
  · subst e
    have hl : k < ((ps.take k).map lv ++ List.replicate (ps.length - k) z).length := by simp; omega
    rw [if_pos rfl, if_pos hl, List.getElem?_append_left (by simp; omega)]
    simp [h]
  · rw [if_neg e]
    by_cases hj : j < k
    · rw [List.getElem?_append_left (by simp; omega), List.getElem?_append_left (by simp; omega)]
      simp [hj, show j < k + 1 by omega]
    · rw [List.getElem?_append_right (by simp; omega), List.getElem?_append_right (by simp; omega)]
      have e1 : ((ps.take k).map lv).length = k := by simp; omega
      have e2 : ((ps.take (k + 1)).map lv).length = k + 1 := by simp; omega
      rw [e1, e2]
      by_cases hj2 : j < ps.length
      · rw [List.getElem?_replicate, List.getElem?_replicate, if_pos (by omega), if_pos (by omega)]
      · rw [List.getElem?_replicate, List.getElem?_replicate, if_neg (by omega), if_neg (by omega)]
theorem fill_all {α : Type} {lv : α → LV} {z : LV} {ps : List α} : fillLV lv z ps ps.length = ps.map lv := by simp [fillLV]
def zPer : LV := .st [.str ⟨#[]⟩, .int .i64 0, .int .i64 0, .int .i64 0, .int .i64 0, .int .i64 0]
theorem toPersonS_spec (ps : List Per) (hb : 56 * ps.length ≤ 281474976710656) : FSpec env.P 46 [.sl (ps.map Per.lv)] (.own 85 6 (ps.map Per.lv)) := by
  refine FSpec_of_code env_ok (fn := Tryz.f46) Tryz.func46 rfl Tryz.call46 _ _ ?_
  ((repeat ((conv => whnf); first | refine brT ?_ | refine brF ?_)); conv => whnf)
  intro hp
  have hp' : ps.length ≤ Go.maxLen := by simpa using hp
  ((repeat ((conv => whnf); first | refine brT ?_ | refine brF ?_)); conv => whnf)
  refine ⟨ps.length, by simp, by simp, hb, hp', rfl, by decide, ?_⟩
  ((repeat ((conv => whnf); first | refine brT ?_ | refine brF ?_)); conv => whnf)
  refine loop_rule (α := Nat) (fun k => [(4, .int .i64 (k : Int))]) (fun k => [.arr 85 6 (fillLV Per.lv zPer ps k)]) (fun k => ps.length - k) (fun k => k ≤ ps.length) 0 (Nat.zero_le _) ?_ ?_
  · refine ⟨?_, ⟨by simp [zPer, fillLV], trivial⟩, rfl, rfl⟩
    repeat ((conv => whnf); refine ⟨rfl, ?_⟩)
    trivial
  rintro k hk
  ((repeat ((conv => whnf); first | refine brT ?_ | refine brF ?_)); conv => whnf)
  intro _
  ((repeat ((conv => whnf); first | refine brT ?_ | refine brF ?_)); conv => whnf)
  refine ⟨fun h1 => ?_, fun h1 => ?_⟩ <;> rw [h1]
  · have hlt : k < ps.length := by rw [ltI_t] at h1; simp at h1; omega
    ((repeat ((conv => whnf); first | refine brT ?_ | refine brF ?_)); conv => whnf)
    refine ⟨k, ps[k].lv, rfl, by simp [hlt], rfl, ?_⟩
    ((repeat ((conv => whnf); first | refine brT ?_ | refine brF ?_)); conv => whnf)
    refine ⟨_, toPerson_spec ps[k], ?_⟩
    ((repeat ((conv => whnf); first | refine brT ?_ | refine brF ?_)); conv => whnf)
    refine ⟨(fill_len hk).symm, rfl, k, rfl, by rw [fill_len hk]; exact hlt, ?_⟩
    ((repeat ((conv => whnf); first | refine brT ?_ | refine brF ?_)); conv => whnf)
    refine ⟨(fill_len hk).symm, k, [], zPer, rfl, by simp [getP, fill_get hlt], rfl, rfl, rfl, _, rfl, ?_⟩
    ((repeat ((conv => whnf); first | refine brT ?_ | refine brF ?_)); conv => whnf)
    refine round_end (k + 1) hlt (by omega) ⟨?_, ⟨?_, trivial⟩, rfl, rfl⟩
    · have e := step_i hlt hp'
      repeat ((conv => whnf); first | refine ⟨e, ?_⟩ | refine ⟨rfl, ?_⟩)
      trivial
    · have e3 : (match (fillLV Per.lv zPer ps k)[k]? with | some z => (fillLV Per.lv zPer ps k).set k (setP z [] ps[k].lv) | none => fillLV Per.lv zPer ps k) = fillLV Per.lv zPer ps (k + 1) := by
        rw [fill_get hlt]
        simp only [zPer, setP]
        exact fill_set hlt
      exact congrArg (Blk.arr 85 6) e3
  · have h3 : ps.length ≤ k := by rw [ltI_f] at h1; simp at h1; omega
    have h4 : k = ps.length := by omega
    subst h4
    ((repeat ((conv => whnf); first | refine brT ?_ | refine brF ?_)); conv => whnf)
    exact ⟨(fill_len (Nat.le_refl _)).symm, rfl, rfl, fill_all, by simp⟩
def zUni : LV := .st [.int .i64 0, .int .i64 0, .int .i64 0, .int .i64 0]
theorem toUnionS_spec (ps : List Uni) (hb : 32 * ps.length ≤ 281474976710656) : FSpec env.P 47 [.sl (ps.map Uni.lv)] (.own 89 4 (ps.map Uni.lv)) := by
  refine FSpec_of_code env_ok (fn := Tryz.f47) Tryz.func47 rfl Tryz.call47 _ _ ?_
  ((repeat ((conv => whnf); first | refine brT ?_ | refine brF ?_)); conv => whnf)
  intro hp
  have hp' : ps.length ≤ Go.maxLen := by simpa using hp
  ((repeat ((conv => whnf); first | refine brT ?_ | refine brF ?_)); conv => whnf)
  refine ⟨ps.length, by simp, by simp, hb, hp', rfl, by decide, ?_⟩
  ((repeat ((conv => whnf); first | refine brT ?_ | refine brF ?_)); conv => whnf)
  refine loop_rule (α := Nat) (fun k => [(4, .int .i64 (k : Int))]) (fun k => [.arr 89 4 (fillLV Uni.lv zUni ps k)]) (fun k => ps.length - k) (fun k => k ≤ ps.length) 0 (Nat.zero_le _) ?_ ?_
  · refine ⟨?_, ⟨by simp [zUni, fillLV], trivial⟩, rfl, rfl⟩
    repeat ((conv => whnf); refine ⟨rfl, ?_⟩)
    trivial
  rintro k hk
  ((repeat ((conv => whnf); first | refine brT ?_ | refine brF ?_)); conv => whnf)
  intro _
  ((repeat ((conv => whnf); first | refine brT ?_ | refine brF ?_)); conv => whnf)
  refine ⟨fun h1 => ?_, fun h1 => ?_⟩ <;> rw [h1]
  · have hlt : k < ps.length := by rw [ltI_t] at h1; simp at h1; omega
    ((repeat ((conv => whnf); first | refine brT ?_ | refine brF ?_)); conv => whnf)
    refine ⟨k, ps[k].lv, rfl, by simp [hlt], rfl, ?_⟩
    ((repeat ((conv => whnf); first | refine brT ?_ | refine brF ?_)); conv => whnf)
    refine ⟨_, toUnion_spec ps[k], ?_⟩
    ((repeat ((conv => whnf); first | refine brT ?_ | refine brF ?_)); conv => whnf)
    refine ⟨(fill_len hk).symm, rfl, k, rfl, by rw [fill_len hk]; exact hlt, ?_⟩
    ((repeat ((conv => whnf); first | refine brT ?_ | refine brF ?_)); conv => whnf)
    refine ⟨(fill_len hk).symm, k, [], zUni, rfl, by simp [getP, fill_get hlt], rfl, rfl, rfl, _, rfl, ?_⟩
    ((repeat ((conv => whnf); first | refine brT ?_ | refine brF ?_)); conv => whnf)
    refine round_end (k + 1) hlt (by omega) ⟨?_, ⟨?_, trivial⟩, rfl, rfl⟩
    · have e := step_i hlt hp'
      repeat ((conv => whnf); first | refine ⟨e, ?_⟩ | refine ⟨rfl, ?_⟩)
      trivial
    · have e3 : (match (fillLV Uni.lv zUni ps k)[k]? with | some z => (fillLV Uni.lv zUni ps k).set k (setP z [] ps[k].lv) | none => fillLV Uni.lv zUni ps k) = fillLV Uni.lv zUni ps (k + 1) := by
        rw [fill_get hlt]
        simp only [zUni, setP]
        exact fill_set hlt
      exact congrArg (Blk.arr 89 4) e3
  · have h3 : ps.length ≤ k := by rw [ltI_f] at h1; simp at h1; omega
    have h4 : k = ps.length := by omega
    subst h4
    ((repeat ((conv => whnf); first | refine brT ?_ | refine brF ?_)); conv => whnf)
    exact ⟨(fill_len (Nat.le_refl _)).symm, rfl, rfl, fill_all, by simp⟩
theorem toFamily_spec (ps : List Per) (us : List Uni) (hp : 56 * ps.length ≤ 281474976710656) (hu : 32 * us.length ≤ 281474976710656) : FSpec env.P 11 [famLV ps us] (famLV ps us) := by
  refine FSpec_of_code env_ok (fn := Tryz.f11) Tryz.func11 rfl Tryz.call11 _ _ ?_
  ((repeat ((conv => whnf); first | refine brT ?_ | refine brF ?_)); conv => whnf)
  refine ⟨_, toPersonS_spec ps hp, ?_⟩
  ((repeat ((conv => whnf); first | refine brT ?_ | refine brF ?_)); conv => whnf)
  refine ⟨_, toUnionS_spec us hu, ?_⟩
  ((repeat ((conv => whnf); first | refine brT ?_ | refine brF ?_)); conv => whnf)
  refine ⟨_, rfl, rfl, ?_⟩
  repeat ((conv => whnf); refine ⟨rfl, ?_⟩)
  exact List.nodup_nil
end Go.Proofs.YtgkjafmmekjjlaaGreat
namespace Go.Proofs.YtgkjafmmekjjlaaGreat
open Go.Lg
structure FamOK (ps : List Per) (us : List Uni) : Prop where
  p : ps.length ≤ Go.maxLen
  u : us.length ≤ Go.maxLen
  n : ∀ p ∈ ps, p.name.size ≤ Go.maxLen
theorem wrap_sub {n : Int} {k : Nat} (h0 : 0 ≤ n) (h1 : n ≤ 1048576) (hk : k ≤ Go.maxLen) : IntKind.i64.wrap (n - (k : Int)) = n - k := by
  unfold Go.maxLen at hk
  exact wrap64 (by omega) (by omega)
theorem szPer_le {n : Int} {p : Per} (h0 : 0 ≤ n) (h1 : n ≤ 1048576) (hp : p.name.size ≤ Go.maxLen) : szPer n p ≤ n := by
  unfold szPer
  rw [wrap_sub h0 h1 hp]
  split <;> omega
theorem szFold_le : ∀ {ps : List Per} {n : Int}, 0 ≤ n → n ≤ 1048576 → (∀ p ∈ ps, p.name.size ≤ Go.maxLen) → szFold n ps ≤ n
  | [], n, _, _, _ => Int.le_refl n
  | p :: ps, n, h0, h1, h => by
    have h2 := szPer_le h0 h1 (h p (by simp))
    unfold szFold
    split
    · omega
    · rename_i hh
      rw [ltI_f] at hh
      have := szFold_le (ps := ps) hh (by omega) (fun q hq => h q (List.mem_cons_of_mem _ hq))
      omega
theorem szPers_ok {ps : List Per} {n : Int} (h0 : 0 ≤ n) (h1 : n ≤ 1048576) (hl : ps.length ≤ Go.maxLen) (h : ∀ p ∈ ps, p.name.size ≤ Go.maxLen) (hk : 0 ≤ szPers n ps) : (ps.length : Int) ≤ n ∧ szPers n ps ≤ n := by
  unfold szPers at hk ⊢
  rw [wrap_sub h0 h1 hl] at hk ⊢
  split at hk
  · omega
  · rename_i hh
    rw [ltI_f] at hh
    have := szFold_le hh (by omega) h
    exact ⟨by omega, by omega⟩
theorem szUnis_ok {us : List Uni} {n : Int} (h0 : 0 ≤ n) (h1 : n ≤ 1048576) (hl : us.length ≤ Go.maxLen) (hk : 0 ≤ szUnis n us) : (us.length : Int) ≤ n ∧ szUnis n us ≤ n := by
  unfold szUnis at hk ⊢
  rw [wrap_sub h0 h1 hl] at hk ⊢
  split at hk
  · omega
  · rename_i hh
    rw [ltI_f] at hh
    exact ⟨by omega, by omega⟩
theorem szFam_ok {ps : List Per} {us : List Uni} {n : Int} (h0 : 0 ≤ n) (h1 : n ≤ 1048576) (hf : FamOK ps us) (hk : 0 ≤ szFam n ps us) :
    56 * ps.length ≤ 281474976710656 ∧ 32 * us.length ≤ 281474976710656 ∧ szFam n ps us ≤ n := by
  unfold szFam at hk ⊢
  split at hk
  · omega
  · rename_i hh
    rw [ltI_f] at hh
    obtain ⟨a1, a2⟩ := szPers_ok h0 h1 hf.p hf.n hh
    split at hk
    · omega
    · rename_i h3
      rw [ltI_f] at h3
      obtain ⟨b1, b2⟩ := szUnis_ok hh (by omega) hf.u h3
      exact ⟨by omega, by omega, by omega⟩
theorem eqS_refl (s : ByteArray) : eqS s s = true := by unfold eqS; simp
theorem eqI_refl (n : Int) : eqI n n = true := by unfold eqI; simp
theorem Per.eq_refl (p : Per) : p.eq p = true := by simp [Per.eq, eqS_refl, eqI_refl]
theorem Uni.eq_refl (p : Uni) : p.eq p = true := by simp [Uni.eq, eqI_refl]
theorem eqList_refl {α : Type} {eq : α → α → Bool} (h : ∀ x, eq x x = true) : ∀ xs, eqList eq xs xs = true
  | [] => rfl
  | x :: xs => by simp [eqList, h x, eqList_refl h xs]
theorem eqFam_refl (ps : List Per) (us : List Uni) : eqFam ps ps us us = true := by simp [eqFam, eqList_refl Per.eq_refl, eqList_refl Uni.eq_refl]
end Go.Proofs.YtgkjafmmekjjlaaGreat
namespace Go.Proofs.YtgkjafmmekjjlaaGreat
open Go.Lg
def endYear (y b : Int) : Bool := eqI y (-1) || (leI b y && leI y 9999)
theorem isEndYear_spec (y b : Int) : FSpec env.P 136 [.int .i64 y, .int .i64 b] (.bool (endYear y b)) := by
  refine FSpec_of_code env_ok (fn := Tryz.f136) Tryz.func136 rfl Tryz.call136 _ _ ?_
  ((repeat ((conv => whnf); first | refine brT ?_ | refine brF ?_)); conv => whnf)
  refine ⟨fun h => ?_, fun h => ?_⟩ <;> rw [h]
  · ((repeat ((conv => whnf); first | refine brT ?_ | refine brF ?_)); conv => whnf); refine fin ?_; simp [endYear, h]
  ((repeat ((conv => whnf); first | refine brT ?_ | refine brF ?_)); conv => whnf)
  refine ⟨fun h1 => ?_, fun h1 => ?_⟩ <;> rw [h1]
  · ((repeat ((conv => whnf); first | refine brT ?_ | refine brF ?_)); conv => whnf); refine fin ?_; simp [endYear, h, h1]
  · ((repeat ((conv => whnf); first | refine brT ?_ | refine brF ?_)); conv => whnf); refine fin ?_; simp [endYear, h, h1]
def livedTo (p : Per) (y : Int) : Bool := eqI p.died (-1) || leI y p.died
theorem livedTo_spec (p : Per) (y : Int) : FSpec env.P 140 [p.lv, .int .i64 y] (.bool (livedTo p y)) := by
  refine FSpec_of_code env_ok (fn := Tryz.f140) Tryz.func140 rfl Tryz.call140 _ _ ?_
  ((repeat ((conv => whnf); first | refine brT ?_ | refine brF ?_)); conv => whnf)
  refine ⟨fun h => ?_, fun h => ?_⟩ <;> rw [h]
  · ((repeat ((conv => whnf); first | refine brT ?_ | refine brF ?_)); conv => whnf); refine fin ?_; simp [livedTo, h]
  · ((repeat ((conv => whnf); first | refine brT ?_ | refine brF ?_)); conv => whnf); refine fin ?_; simp [livedTo, h]
def parentOk (ps : List Per) (x sex born : Int) : Bool :=
  eqI x (-1) || (leI 0 x && match ps[x.toNat]? with
    | none => false
    | some q => eqI q.sex sex && (ltI q.born born && (match eqI sex 1 with | true => livedTo q (IntKind.i64.wrap (born - 1)) | false => livedTo q born)))
theorem isParentOf_spec (ps : List Per) (x sex born : Int) : FSpec env.P 137 [.sl (ps.map Per.lv), .int .i64 x, .int .i64 sex, .int .i64 born] (.bool (parentOk ps x sex born)) := by
  refine FSpec_of_code env_ok (fn := Tryz.f137) Tryz.func137 rfl Tryz.call137 _ _ ?_
  ((repeat ((conv => whnf); first | refine brT ?_ | refine brF ?_)); conv => whnf)
  refine ⟨fun h => ?_, fun h => ?_⟩ <;> rw [h]
  · ((repeat ((conv => whnf); first | refine brT ?_ | refine brF ?_)); conv => whnf); refine fin ?_; simp [parentOk, h]
  ((repeat ((conv => whnf); first | refine brT ?_ | refine brF ?_)); conv => whnf)
  refine ⟨fun h1 => ?_, fun h1 => ?_⟩ <;> rw [h1]
  · ((repeat ((conv => whnf); first | refine brT ?_ | refine brF ?_)); conv => whnf); refine fin ?_; have h2 : leI 0 x = false := by rw [leI_f]; rw [ltI_t] at h1; exact h1
    simp [parentOk, h, h2]
  rw [ltI_f] at h1
  have h0 : leI 0 x = true := by rw [leI_t]; exact h1
  ((repeat ((conv => whnf); first | refine brT ?_ | refine brF ?_)); conv => whnf)
  intro hp
  ((repeat ((conv => whnf); first | refine brT ?_ | refine brF ?_)); conv => whnf)
  refine ⟨fun h2 => ?_, fun h2 => ?_⟩ <;> rw [h2]
  · ((repeat ((conv => whnf); first | refine brT ?_ | refine brF ?_)); conv => whnf); refine fin ?_; rw [leI_t] at h2; have h3 : ps[x.toNat]? = none := by rw [List.getElem?_eq_none]; simp at h2; omega
    simp [parentOk, h, h0, h3]
  rw [leI_f] at h2
  have hlt : x.toNat < ps.length := by simp at h2; omega
  have hg : ps[x.toNat]? = some ps[x.toNat] := List.getElem?_eq_getElem hlt
  ((repeat ((conv => whnf); first | refine brT ?_ | refine brF ?_)); conv => whnf)
  refine ⟨x.toNat, ps[x.toNat].lv, by omega, by simp [hlt], rfl, ?_⟩
  ((repeat ((conv => whnf); first | refine brT ?_ | refine brF ?_)); conv => whnf)
  refine ⟨fun h4 => ?_, fun h4 => ?_⟩ <;> rw [h4]
  · ((repeat ((conv => whnf); first | refine brT ?_ | refine brF ?_)); conv => whnf); refine fin ?_; rw [notB_t] at h4; simp [parentOk, h, h0, hg, h4]
  rw [notB_f] at h4
  ((repeat ((conv => whnf); first | refine brT ?_ | refine brF ?_)); conv => whnf)
  refine ⟨fun h5 => ?_, fun h5 => ?_⟩ <;> rw [h5]
  · ((repeat ((conv => whnf); first | refine brT ?_ | refine brF ?_)); conv => whnf); refine fin ?_; have h6 : ltI ps[x.toNat].born born = false := by rw [ltI_f]; rw [leI_t] at h5; exact h5
    simp [parentOk, h, h0, hg, h4, h6]
  have h6 : ltI ps[x.toNat].born born = true := by rw [ltI_t]; rw [leI_f] at h5; exact h5
  ((repeat ((conv => whnf); first | refine brT ?_ | refine brF ?_)); conv => whnf)
  refine ⟨fun h7 => ?_, fun h7 => ?_⟩ <;> rw [h7]
  · ((repeat ((conv => whnf); first | refine brT ?_ | refine brF ?_)); conv => whnf)
    refine ⟨_, livedTo_spec ps[x.toNat] _, ?_⟩
    ((repeat ((conv => whnf); first | refine brT ?_ | refine brF ?_)); conv => whnf); refine fin ?_; simp [parentOk, h, h0, hg, h4, h6, h7]
  · ((repeat ((conv => whnf); first | refine brT ?_ | refine brF ?_)); conv => whnf)
    refine ⟨_, livedTo_spec ps[x.toNat] _, ?_⟩
    ((repeat ((conv => whnf); first | refine brT ?_ | refine brF ?_)); conv => whnf); refine fin ?_; simp [parentOk, h, h0, hg, h4, h6, h7]
end Go.Proofs.YtgkjafmmekjjlaaGreat
namespace Go.Proofs.YtgkjafmmekjjlaaGreat
open Go.Lg
def findFrom (n : ByteArray) : Nat → List Per → Option Nat
  | _, [] => none
  | i, p :: ps => match eqS p.name n with | true => some i | false => findFrom n (i + 1) ps
def foundLV : Option Nat → LV
  | some i => .tup [.int .i64 (i : Int), .bool true]
  | none => .tup [.int .i64 0, .bool false]
theorem indexOfName_spec (ps : List Per) (n : ByteArray) : FSpec env.P 134 [.sl (ps.map Per.lv), .str n] (foundLV (findFrom n 0 ps)) := by
  refine FSpec_of_code env_ok (fn := Tryz.f134) Tryz.func134 rfl Tryz.call134 _ _ ?_
  ((repeat ((conv => whnf); first | refine brT ?_ | refine brF ?_)); conv => whnf)
  intro hp
  have hp' : ps.length ≤ Go.maxLen := by simpa using hp
  ((repeat ((conv => whnf); first | refine brT ?_ | refine brF ?_)); conv => whnf)
  refine loop_rule (α := Nat) (fun k => [(10, .int .i64 (k : Int))]) (fun k => []) (fun k => ps.length - k) (fun k => k ≤ ps.length ∧ findFrom n k (ps.drop k) = findFrom n 0 ps) 0 ⟨Nat.zero_le _, rfl⟩ ?_ ?_
  · refine ⟨?_, trivial, rfl, rfl⟩
    repeat ((conv => whnf); refine ⟨rfl, ?_⟩)
    trivial
  rintro k ⟨hk, hf⟩
  ((repeat ((conv => whnf); first | refine brT ?_ | refine brF ?_)); conv => whnf)
  refine ⟨fun h1 => ?_, fun h1 => ?_⟩ <;> rw [h1]
  · have hlt : k < ps.length := by rw [ltI_t] at h1; simp at h1; omega
    have hd : ps.drop k = ps[k] :: ps.drop (k + 1) := List.drop_eq_getElem_cons hlt
    rw [hd] at hf
    simp only [findFrom] at hf
    ((repeat ((conv => whnf); first | refine brT ?_ | refine brF ?_)); conv => whnf)
    refine ⟨k, ps[k].lv, rfl, by simp [hlt], rfl, ?_⟩
    ((repeat ((conv => whnf); first | refine brT ?_ | refine brF ?_)); conv => whnf)
    refine ⟨fun h2 => ?_, fun h2 => ?_⟩ <;> rw [h2]
    · rw [h2] at hf
      rw [← hf]
      ((repeat ((conv => whnf); first | refine brT ?_ | refine brF ?_)); conv => whnf)
      repeat ((conv => whnf); refine ⟨rfl, ?_⟩)
      exact List.nodup_nil
    · rw [h2] at hf
      ((repeat ((conv => whnf); first | refine brT ?_ | refine brF ?_)); conv => whnf)
      refine round_end (k + 1) ⟨hlt, hf⟩ (by omega) ⟨?_, trivial, rfl, rfl⟩
      have e := step_i hlt hp'
      repeat ((conv => whnf); first | refine ⟨e, ?_⟩ | refine ⟨rfl, ?_⟩)
      trivial
  · have h3 : ps.length ≤ k := by rw [ltI_f] at h1; simp at h1; omega
    rw [List.drop_eq_nil_of_le h3] at hf
    simp only [findFrom] at hf
    rw [← hf]
    ((repeat ((conv => whnf); first | refine brT ?_ | refine brF ?_)); conv => whnf)
    repeat ((conv => whnf); refine ⟨rfl, ?_⟩)
    exact List.nodup_nil
end Go.Proofs.YtgkjafmmekjjlaaGreat
namespace Go.Proofs.YtgkjafmmekjjlaaGreat
open Go.Lg
theorem l1In_spec (x a b : Int) : FSpec env.P 76 [.int .i64 x, .int .i64 a, .int .i64 b] (.bool (leI a x && leI x b)) := by
  refine FSpec_of_code env_ok (fn := Tryz.f76) Tryz.func76 rfl Tryz.call76 _ _ ?_
  conv => whnf
  refine ⟨fun h => ?_, fun h => ?_⟩ <;> rw [h] <;> conv => whnf
  · repeat (refine brT ?_; conv => whnf)
    exact fin rfl
  · repeat (refine brF ?_; conv => whnf)
    exact fin rfl
def low (c : UInt8) : Bool := !(ltI (c.toNat : Int) 97 || ltI 122 (c.toNat : Int))
def lowTo (s : ByteArray) (k : Nat) : Prop := ∀ j (h : j < s.size), j < k → low s[j] = true
def allLow (s : ByteArray) : Bool := s.data.toList.all low
def isName (s : ByteArray) : Bool := allLow s && (leI 1 (s.size : Int) && leI (s.size : Int) 12)
theorem lowTo.succ {s : ByteArray} {k : Nat} (h : lowTo s k) (hk : k < s.size) (hl : low s[k] = true) : lowTo s (k + 1) := by
  intro j hj hjk
  by_cases e : j = k
  · subst e; exact hl
  · exact h j hj (by omega)
theorem lowTo.all {s : ByteArray} {k : Nat} (h : lowTo s k) (hk : s.size ≤ k) : allLow s = true := by
  unfold allLow
  rw [List.all_eq_true]
  intro c hc
  obtain ⟨j, hj, rfl⟩ := List.mem_iff_getElem.1 hc
  have hj' : j < s.size := by simpa using hj
  exact h j hj' (by omega)
theorem isName_no {s : ByteArray} {k : Nat} (hk : k < s.size) (hl : low s[k] = false) : isName s = false := by
  have : allLow s = false := by
    unfold allLow
    rw [List.all_eq_false]
    exact ⟨s[k], by exact Array.getElem_mem_toList _, by simp [hl]⟩
  unfold isName; rw [this]; rfl
theorem isName_spec (s : ByteArray) : FSpec env.P 132 [.str s] (.bool (isName s)) := by
  refine FSpec_of_code env_ok (fn := Tryz.f132) Tryz.func132 rfl Tryz.call132 _ _ ?_
  conv => whnf
  refine loop_rule (α := Nat) (fun k => [(3, .int .i64 (k : Int))]) (fun _ => []) (fun k => s.size - k) (fun k => k ≤ s.size ∧ lowTo s k) 0 ⟨Nat.zero_le _, fun _ _ h => absurd h (Nat.not_lt_zero _)⟩ ?_ ?_
  · refine ⟨?_, trivial, rfl, rfl⟩
    repeat ((conv => whnf); refine ⟨rfl, ?_⟩)
    trivial
  · rintro k ⟨hk, hlow⟩
    conv => whnf
    intro hs
    conv => whnf
    refine ⟨fun h => ?_, fun h => ?_⟩
    · rw [h]
      have hlt : k < s.size := by rw [ltI_t] at h; omega
      conv => whnf
      refine ⟨k, hlt, rfl, ?_⟩
      conv => whnf
      refine ⟨fun h1 => ?_, fun h1 => ?_⟩
      · rw [h1]
        have hno : false = isName s := (isName_no hlt (by simp [low, h1])).symm
        repeat ((conv => whnf); first | refine brT ?_ | refine brF ?_)
        exact fin hno
      · rw [h1]
        repeat ((conv => whnf); first | refine brT ?_ | refine brF ?_)
        refine ⟨k, hlt, rfl, ?_⟩
        repeat ((conv => whnf); first | refine brT ?_ | refine brF ?_)
        refine ⟨fun h2 => ?_, fun h2 => ?_⟩
        · rw [h2]
          have hno : false = isName s := (isName_no hlt (by simp [low, h1, h2])).symm
          repeat ((conv => whnf); first | refine brT ?_ | refine brF ?_)
          exact fin hno
        · rw [h2]
          have hl := hlow.succ hlt (by simp [low, h1, h2])
          conv => whnf
          refine round_end (k + 1) ⟨hlt, hl⟩ (by omega) ⟨?_, trivial, rfl, rfl⟩
          have e := step_i hlt hs
          repeat ((conv => whnf); first | refine ⟨e, ?_⟩ | refine ⟨rfl, ?_⟩)
          trivial
    · rw [h]
      rw [ltI_f] at h
      conv => whnf
      intro _
      conv => whnf
      refine ⟨_, l1In_spec _ _ _, ?_⟩
      conv => whnf
      refine fin ?_
      unfold isName
      rw [hlow.all (by omega)]
      rfl
end Go.Proofs.YtgkjafmmekjjlaaGreat
namespace Go.Proofs.YtgkjafmmekjjlaaGreat
open Go.Lg
theorem decode_low (s : ByteArray) (pos : Nat) (h : pos < s.size) :
    (low s[pos] = true ∧ Utf8.decode s pos = (s[pos].toNat, 1) ∧ ltI (s[pos].toNat : Int) 97 = false ∧ ltI 122 (s[pos].toNat : Int) = false) ∨
    (low s[pos] = false ∧ (ltI ((Utf8.decode s pos).1 : Int) 97 || ltI 122 ((Utf8.decode s pos).1 : Int)) = true) := by
  by_cases ha : (s[pos]'h).toNat < 128
  · have e := decode_ascii s pos h ha
    by_cases hl : low s[pos] = true
    · have := hl
      simp only [low, Bool.not_eq_true', Bool.or_eq_false_iff] at this
      exact .inl ⟨hl, e, this.1, this.2⟩
    · have hl' : low s[pos] = false := by simpa using hl
      refine .inr ⟨hl', ?_⟩
      rw [e]
      unfold low at hl'
      simpa only [Bool.not_eq_false'] using hl'
  · have e := (decode_high s pos h (by omega)).1
    refine .inr ⟨?_, ?_⟩
    · unfold low ltI; simp; omega
    · unfold ltI; simp; omega
theorem isNameImpl_spec (s : ByteArray) : FSpec env.P 135 [.str s] (.bool (isName s)) := by
  refine FSpec_of_code env_ok (fn := Tryz.f135) Tryz.func135 rfl Tryz.call135 _ _ ?_
  ((repeat ((conv => whnf); first | refine brT ?_ | refine brF ?_)); conv => whnf)
  intro hs
  ((repeat ((conv => whnf); first | refine brT ?_ | refine brF ?_)); conv => whnf)
  (refine ⟨fun h => ?_, fun h => ?_⟩ <;> rw [h])
  · ((repeat ((conv => whnf); first | refine brT ?_ | refine brF ?_)); conv => whnf)
    refine fin ?_
    rw [eqI_t] at h
    have h0 : leI 1 (s.size : Int) = false := by rw [leI_f]; omega
    simp [isName, h0]
  rw [eqI_f] at h
  have h0 : leI 1 (s.size : Int) = true := by rw [leI_t]; omega
  ((repeat ((conv => whnf); first | refine brT ?_ | refine brF ?_)); conv => whnf)
  intro _
  ((repeat ((conv => whnf); first | refine brT ?_ | refine brF ?_)); conv => whnf)
  (refine ⟨fun h1 => ?_, fun h1 => ?_⟩ <;> rw [h1])
  · ((repeat ((conv => whnf); first | refine brT ?_ | refine brF ?_)); conv => whnf)
    refine fin ?_
    have h2 : leI (s.size : Int) 12 = false := by rw [leI_f]; rw [ltI_t] at h1; exact h1
    simp [isName, h2]
  have h2 : leI (s.size : Int) 12 = true := by rw [leI_t]; rw [ltI_f] at h1; exact h1
  ((repeat ((conv => whnf); first | refine brT ?_ | refine brF ?_)); conv => whnf)
  refine loop_rule (α := Nat) (fun k => []) (fun k => [.it s k]) (fun k => s.size - k) (fun k => k ≤ s.size ∧ lowTo s k) 0 ⟨Nat.zero_le _, fun _ _ h => absurd h (Nat.not_lt_zero _)⟩ ?_ ?_
  · refine ⟨?_, ⟨rfl, trivial⟩, rfl, rfl⟩
    ((repeat ((conv => whnf); refine ⟨rfl, ?_⟩)); trivial)
  rintro k ⟨hk, hlow⟩
  ((repeat ((conv => whnf); first | refine brT ?_ | refine brF ?_)); conv => whnf)
  refine ⟨fun hlt => ?_, fun hge => ?_⟩
  · rcases decode_low s k hlt with ⟨hl, hd, hd1, hd2⟩ | ⟨hl, hd⟩
    · rw [hd]
      ((repeat ((conv => whnf); first | refine brT ?_ | refine brF ?_)); conv => whnf)
      rw [hd1]
      ((repeat ((conv => whnf); first | refine brT ?_ | refine brF ?_)); conv => whnf)
      rw [hd2]
      ((repeat ((conv => whnf); first | refine brT ?_ | refine brF ?_)); conv => whnf)
      refine round_end (k + 1) ⟨hlt, hlow.succ hlt hl⟩ (by omega) ⟨?_, ⟨rfl, trivial⟩, rfl, rfl⟩
      ((repeat ((conv => whnf); refine ⟨rfl, ?_⟩)); trivial)
    · have hno : false = isName s := (isName_no hlt hl).symm
      generalize Utf8.decode s k = d at hd ⊢
      ((repeat ((conv => whnf); first | refine brT ?_ | refine brF ?_)); conv => whnf)
      (refine ⟨fun h3 => ?_, fun h3 => ?_⟩ <;> rw [h3])
      · ((repeat ((conv => whnf); first | refine brT ?_ | refine brF ?_)); conv => whnf); exact fin hno
      · ((repeat ((conv => whnf); first | refine brT ?_ | refine brF ?_)); conv => whnf)
        rw [h3, Bool.false_or] at hd
        rw [hd]
        ((repeat ((conv => whnf); first | refine brT ?_ | refine brF ?_)); conv => whnf); exact fin hno
  · ((repeat ((conv => whnf); first | refine brT ?_ | refine brF ?_)); conv => whnf)
    refine fin ?_
    rw [isName, hlow.all (by omega), h0, h2]
    rfl
def ofSex (ps : List Per) (x sex : Int) : Bool := leI 0 x && match ps[x.toNat]? with | some q => eqI q.sex sex | none => false
theorem isOfSex_spec (ps : List Per) (x sex : Int) : FSpec env.P 138 [.sl (ps.map Per.lv), .int .i64 x, .int .i64 sex] (.bool (ofSex ps x sex)) := by
  refine FSpec_of_code env_ok (fn := Tryz.f138) Tryz.func138 rfl Tryz.call138 _ _ ?_
  ((repeat ((conv => whnf); first | refine brT ?_ | refine brF ?_)); conv => whnf)
  (refine ⟨fun h => ?_, fun h => ?_⟩ <;> rw [h])
  · rw [leI_t] at h
    have h0 : leI 0 x = true := by rw [leI_t]; exact h
    ((repeat ((conv => whnf); first | refine brT ?_ | refine brF ?_)); conv => whnf)
    intro hl
    ((repeat ((conv => whnf); first | refine brT ?_ | refine brF ?_)); conv => whnf)
    (refine ⟨fun h1 => ?_, fun h1 => ?_⟩ <;> rw [h1])
    · have hlt : x.toNat < ps.length := by rw [ltI_t] at h1; simp at h1; omega
      have hg : ps[x.toNat]? = some ps[x.toNat] := List.getElem?_eq_getElem hlt
      ((repeat ((conv => whnf); first | refine brT ?_ | refine brF ?_)); conv => whnf)
      refine ⟨x.toNat, ps[x.toNat].lv, by omega, by simp [hlt], rfl, ?_⟩
      ((repeat ((conv => whnf); first | refine brT ?_ | refine brF ?_)); conv => whnf)
      refine fin ?_
      simp [ofSex, h0, hg]
    · ((repeat ((conv => whnf); first | refine brT ?_ | refine brF ?_)); conv => whnf)
      refine fin ?_
      have h3 : ps[x.toNat]? = none := by rw [List.getElem?_eq_none]; rw [ltI_f] at h1; simp at h1; omega
      simp [ofSex, h3]
  · rw [leI_f] at h
    have h0 : leI 0 x = false := by rw [leI_f]; exact h
    ((repeat ((conv => whnf); first | refine brT ?_ | refine brF ?_)); conv => whnf)
    refine fin ?_
    simp [ofSex, h0]
def unitedOf (m f : Int) (u : Uni) : Bool := eqI u.husband m && eqI u.wife f
theorem isUnited1_spec (u : Uni) (m f : Int) : FSpec env.P 163 [u.lv, .ref (.int .i64 m), .ref (.int .i64 f)] (.bool (unitedOf m f u)) := by
  refine FSpec_of_code env_ok (fn := Tryz.f163) Tryz.func163 rfl Tryz.call163 _ _ ?_
  ((repeat' (((repeat ((conv => whnf); first | refine brT ?_ | refine brF ?_)); conv => whnf); (refine And.intro ?_ ?_ <;> (intro h; rw [h]; revert h; intro _)))); all_goals ((repeat ((conv => whnf); first | refine brT ?_ | refine brF ?_)); conv => whnf))
  · refine fin ?_; simp [unitedOf, *]
  · refine fin ?_; simp [unitedOf, *]
def idxFrom {α : Type} (q : α → Bool) : Nat → List α → Int
  | _, [] => -1
  | i, p :: ps => match q p with | true => (i : Int) | false => idxFrom q (i + 1) ps
theorem idxFrom_ge {α : Type} (q : α → Bool) : ∀ (i : Nat) (ps : List α), leI 0 (idxFrom q i ps) = ps.any q
  | _, [] => by simp [idxFrom, leI]
  | i, p :: ps => by
    simp only [idxFrom, List.any_cons]
    cases h : q p
    · simpa using idxFrom_ge q (i + 1) ps
    · simp [leI]
theorem indexFunc_spec (m f : Int) (us : List Uni) : FSpec env.P 179 [.sl (us.map Uni.lv), .clos 163 [.ref (.int .i64 m), .ref (.int .i64 f)]] (.int .i64 (idxFrom (unitedOf m f) 0 us)) := by
  refine FSpec_of_code env_ok (fn := Tryz.f179) Tryz.func179 rfl Tryz.call179 _ _ ?_
  ((repeat ((conv => whnf); first | refine brT ?_ | refine brF ?_)); conv => whnf)
  intro hp
  have hp' : us.length ≤ Go.maxLen := by simpa using hp
  ((repeat ((conv => whnf); first | refine brT ?_ | refine brF ?_)); conv => whnf)
  refine loop_rule (α := Nat) (fun k => [(8, .int .i64 (k : Int))]) (fun k => []) (fun k => us.length - k) (fun k => k ≤ us.length ∧ idxFrom (unitedOf m f) k (us.drop k) = idxFrom (unitedOf m f) 0 us) 0 ⟨Nat.zero_le _, rfl⟩ ?_ ?_
  · refine ⟨?_, trivial, rfl, rfl⟩
    ((repeat ((conv => whnf); refine ⟨rfl, ?_⟩)); trivial)
  rintro k ⟨hk, hf⟩
  ((repeat ((conv => whnf); first | refine brT ?_ | refine brF ?_)); conv => whnf)
  (refine ⟨fun h1 => ?_, fun h1 => ?_⟩ <;> rw [h1])
  · have hlt : k < us.length := by rw [ltI_t] at h1; simp at h1; omega
    rw [List.drop_eq_getElem_cons hlt] at hf
    simp only [idxFrom] at hf
    ((repeat ((conv => whnf); first | refine brT ?_ | refine brF ?_)); conv => whnf)
    refine ⟨k, us[k].lv, rfl, by simp [hlt], rfl, ?_⟩
    ((repeat ((conv => whnf); first | refine brT ?_ | refine brF ?_)); conv => whnf)
    refine ⟨_, isUnited1_spec us[k] m f, ?_⟩
    ((repeat ((conv => whnf); first | refine brT ?_ | refine brF ?_)); conv => whnf)
    (refine ⟨fun h2 => ?_, fun h2 => ?_⟩ <;> rw [h2])
    · rw [h2] at hf
      ((repeat ((conv => whnf); first | refine brT ?_ | refine brF ?_)); conv => whnf)
      exact ⟨rfl, by rw [← hf], List.nodup_nil⟩
    · rw [h2] at hf
      ((repeat ((conv => whnf); first | refine brT ?_ | refine brF ?_)); conv => whnf)
      refine round_end (k + 1) ⟨hlt, hf⟩ (by omega) ⟨?_, trivial, rfl, rfl⟩
      have e := step_i hlt hp'
      ((repeat ((conv => whnf); first | refine ⟨e, ?_⟩ | refine ⟨rfl, ?_⟩)); trivial)
  · have h3 : us.length ≤ k := by rw [ltI_f] at h1; simp at h1; omega
    rw [List.drop_eq_nil_of_le h3] at hf
    ((repeat ((conv => whnf); first | refine brT ?_ | refine brF ?_)); conv => whnf)
    exact ⟨rfl, by rw [← hf]; rfl, List.nodup_nil⟩
theorem containsFunc_spec (m f : Int) (us : List Uni) : FSpec env.P 162 [.sl (us.map Uni.lv), .clos 163 [.ref (.int .i64 m), .ref (.int .i64 f)]] (.bool (us.any (unitedOf m f))) := by
  refine FSpec_of_code env_ok (fn := Tryz.f162) Tryz.func162 rfl Tryz.call162 _ _ ?_
  ((repeat ((conv => whnf); first | refine brT ?_ | refine brF ?_)); conv => whnf)
  refine ⟨_, indexFunc_spec m f us, ?_⟩
  ((repeat ((conv => whnf); first | refine brT ?_ | refine brF ?_)); conv => whnf)
  exact fin (idxFrom_ge _ _ _)
theorem isUnited_spec (us : List Uni) (m f : Int) : FSpec env.P 139 [.sl (us.map Uni.lv), .int .i64 m, .int .i64 f] (.bool (us.any (unitedOf m f))) := by
  refine FSpec_of_code env_ok (fn := Tryz.f139) Tryz.func139 rfl Tryz.call139 _ _ ?_
  ((repeat ((conv => whnf); first | refine brT ?_ | refine brF ?_)); conv => whnf)
  refine ⟨_, containsFunc_spec m f us, ?_⟩
  ((repeat ((conv => whnf); first | refine brT ?_ | refine brF ?_)); conv => whnf)
  exact fin rfl
def notNone (x : Int) : Bool := notB (eqI x (-1))
def known (p : Per) : List Int := [p.father, p.mother].filter notNone
def intLV (n : Int) : LV := .int .i64 n
def knownTo (p : Per) (k : Nat) : List Int := ([p.father, p.mother].take k).filter notNone
theorem knownTo_succ (p : Per) (k : Nat) (h : k < 2) : knownTo p (k + 1) = knownTo p k ++ (if notNone ([p.father, p.mother][k]'h) then [[p.father, p.mother][k]'h] else []) := by
  unfold knownTo
  rw [List.take_succ_eq_append_getElem h, List.filter_append]
  congr 1
  simp [List.filter]
  split <;> simp_all
theorem knownTo_len (p : Per) (k : Nat) : (knownTo p k).length ≤ 2 := by
  unfold knownTo
  refine Nat.le_trans (List.length_filter_le _ _) ?_
  simp; omega
theorem knownParents_spec (p : Per) : FSpec env.P 117 [p.lv] (.own 3 1 ((known p).map intLV)) := by
  refine FSpec_of_code env_ok (fn := Tryz.f117) Tryz.func117 rfl Tryz.call117 _ _ ?_
  ((repeat ((conv => whnf); first | refine brT ?_ | refine brF ?_)); conv => whnf)
  refine ⟨rfl, fun _ => ?_⟩
  ((repeat ((conv => whnf); first | refine brT ?_ | refine brF ?_)); conv => whnf)
  refine loop_ruleR (α := Nat) [.old 0, .old 1, .nil 3 1] (fun k => [(12, .int .i64 (k : Int)), (3, .hs 2 ((knownTo p k).map intLV).length)]) (fun k => [.box p.lv, .arr 3 1 [.int .i64 p.father, .int .i64 p.mother], .arr 3 1 ((knownTo p k).map intLV)])
    (fun k => 2 - k) (fun k => k ≤ 2) 0 (by omega) ?_ ?_
  · refine ⟨?_, ⟨rfl, rfl, rfl, rfl, rfl, rfl, trivial⟩, rfl⟩
    ((repeat ((conv => whnf); refine ⟨rfl, rfl, ?_⟩)); trivial)
  intro k hk
  ((repeat ((conv => whnf); first | refine brT ?_ | refine brF ?_)); conv => whnf)
  have hn := knownTo_len p k
  have hn1 := knownTo_len p (k + 1)
  (refine ⟨fun h1 => ?_, fun h1 => ?_⟩ <;> rw [h1])
  · have hlt : k < 2 := by rw [ltI_t] at h1; simp at h1; omega
    have hs := knownTo_succ p k hlt
    ((repeat ((conv => whnf); first | refine brT ?_ | refine brF ?_)); conv => whnf)
    refine ⟨rfl, by decide, k, rfl, hlt, ?_⟩
    ((repeat ((conv => whnf); first | refine brT ?_ | refine brF ?_)); conv => whnf)
    refine ⟨rfl, by simp, .int .i64 ([p.father, p.mother][k]'hlt), ?_, rfl, ?_⟩
    · match k, hlt with
      | 0, _ => rfl
      | 1, _ => rfl
    ((repeat ((conv => whnf); first | refine brT ?_ | refine brF ?_)); conv => whnf)
    have e : LV.int .i64 (IntKind.i64.wrap ((k : Int) + 1)) = LV.int .i64 ((k + 1 : Nat) : Int) := step_i hlt (by decide)
    (refine ⟨fun h2 => ?_, fun h2 => ?_⟩ <;> rw [h2])
    · rw [show notNone ([p.father, p.mother][k]'hlt) = true from h2, if_pos rfl] at hs
      have e2 : ((knownTo p k).map intLV ++ [LV.int .i64 ([p.father, p.mother][k]'hlt)]) = (knownTo p (k + 1)).map intLV := by rw [hs, List.map_append]; rfl
      have e3 : LV.hs 2 ((knownTo p k).map intLV ++ [LV.int .i64 ([p.father, p.mother][k]'hlt)]).length = LV.hs 2 ((knownTo p (k + 1)).map intLV).length := by rw [e2]
      ((repeat ((conv => whnf); first | refine brT ?_ | refine brF ?_)); conv => whnf)
      refine ⟨rfl, rfl, ?_, ?_, ?_⟩
      · rw [e2]; unfold Go.maxLen; simp; omega
      · rw [e2]; simp; omega
      ((repeat ((conv => whnf); first | refine brT ?_ | refine brF ?_)); conv => whnf)
      refine round_endR [.old 0, .old 1, .old 4] (k + 1) hlt (by omega) ⟨?_, ⟨rfl, rfl, rfl, rfl, rfl, congrArg (Blk.arr 3 1) e2, trivial⟩, rfl⟩
      repeat ((conv => whnf); first | refine ⟨rfl, e, ?_⟩ | refine ⟨rfl, e3, ?_⟩ | refine ⟨rfl, rfl, ?_⟩)
      trivial
    · rw [show notNone ([p.father, p.mother][k]'hlt) = false from h2, if_neg (by decide), List.append_nil] at hs
      have e2 : (knownTo p k).map intLV = (knownTo p (k + 1)).map intLV := by rw [hs]
      have e3 : LV.hs 2 ((knownTo p k).map intLV).length = LV.hs 2 ((knownTo p (k + 1)).map intLV).length := by rw [e2]
      ((repeat ((conv => whnf); first | refine brT ?_ | refine brF ?_)); conv => whnf)
      refine round_end (k + 1) hlt (by omega) ⟨?_, ⟨rfl, rfl, congrArg (Blk.arr 3 1) e2, trivial⟩, rfl, rfl⟩
      repeat ((conv => whnf); first | refine ⟨e, ?_⟩ | refine ⟨e3, ?_⟩ | refine ⟨rfl, ?_⟩)
      trivial
  · have h3 : k = 2 := by rw [ltI_f] at h1; simp at h1; omega
    subst h3
    ((repeat ((conv => whnf); first | refine brT ?_ | refine brF ?_)); conv => whnf)
    exact ⟨rfl, rfl, rfl, rfl, by simp⟩
end Go.Proofs.YtgkjafmmekjjlaaGreat
namespace Go.Proofs.YtgkjafmmekjjlaaGreat
open Go.Lg
def parentAt (ps : List Per) (i q sex late born : Int) : Bool :=
  eqI q (-1) || (leI 0 q && (ltI q i && match ps[q.toNat]? with
    | none => false
    | some p => eqI p.sex sex && (ltI p.born born && (eqI p.died (-1) || leI born (IntKind.i64.wrap (p.died + late))))))
theorem l1Parent_spec (ps : List Per) (us : List Uni) (i : Nat) (hi : i < ps.length) (q sex late : Int) :
    FSpec env.P 133 [famLV ps us, .int .i64 (i : Int), .int .i64 q, .int .i64 sex, .int .i64 late] (.bool (parentAt ps i q sex late (ps[i]).born)) := by
  refine FSpec_of_code env_ok (fn := Tryz.f133) Tryz.func133 rfl Tryz.call133 _ _ ?_
  ((repeat ((conv => whnf); first | refine brT ?_ | refine brF ?_)); conv => whnf)
  (refine ⟨fun h => ?_, fun h => ?_⟩ <;> rw [h])
  · ((repeat ((conv => whnf); first | refine brT ?_ | refine brF ?_)); conv => whnf); refine fin ?_; simp [parentAt, h]
  ((repeat ((conv => whnf); first | refine brT ?_ | refine brF ?_)); conv => whnf)
  (refine ⟨fun h1 => ?_, fun h1 => ?_⟩ <;> rw [h1])
  · ((repeat ((conv => whnf); first | refine brT ?_ | refine brF ?_)); conv => whnf); refine fin ?_
    grind [parentAt, ltI_t, ltI_f, leI_t, leI_f, eqI_t, eqI_f]
  ((repeat ((conv => whnf); first | refine brT ?_ | refine brF ?_)); conv => whnf)
  (refine ⟨fun h2 => ?_, fun h2 => ?_⟩ <;> rw [h2])
  · ((repeat ((conv => whnf); first | refine brT ?_ | refine brF ?_)); conv => whnf); refine fin ?_
    grind [parentAt, ltI_t, ltI_f, leI_t, leI_f, eqI_t, eqI_f]
  have hq : 0 ≤ q ∧ q < i := by rw [ltI_f] at h1; rw [leI_f] at h2; omega
  have hlt : q.toNat < ps.length := by omega
  have hg : ps[q.toNat]? = some ps[q.toNat] := List.getElem?_eq_getElem hlt
  have hd : parentAt ps i q sex late (ps[i]).born = (eqI ps[q.toNat].sex sex && (ltI ps[q.toNat].born (ps[i]).born && (eqI ps[q.toNat].died (-1) || leI (ps[i]).born (IntKind.i64.wrap (ps[q.toNat].died + late))))) := by
    have e1 : leI 0 q = true := leI_t.2 hq.1
    have e2 : ltI q i = true := ltI_t.2 hq.2
    simp [parentAt, h, e1, e2, hg]
  ((repeat ((conv => whnf); first | refine brT ?_ | refine brF ?_)); conv => whnf)
  refine ⟨q.toNat, ps[q.toNat].lv, by omega, by simp [hlt], rfl, ?_⟩
  ((repeat ((conv => whnf); first | refine brT ?_ | refine brF ?_)); conv => whnf)
  (refine ⟨fun h3 => ?_, fun h3 => ?_⟩ <;> rw [h3])
  · ((repeat ((conv => whnf); first | refine brT ?_ | refine brF ?_)); conv => whnf); refine fin ?_
    rw [notB_t] at h3
    simp [hd, h3]
  rw [notB_f] at h3
  ((repeat ((conv => whnf); first | refine brT ?_ | refine brF ?_)); conv => whnf)
  refine ⟨q.toNat, ps[q.toNat].lv, by omega, by simp [hlt], rfl, ?_⟩
  ((repeat ((conv => whnf); first | refine brT ?_ | refine brF ?_)); conv => whnf)
  refine ⟨i, ps[i].lv, rfl, by simp [hi], rfl, ?_⟩
  ((repeat' (((repeat ((conv => whnf); first | refine brT ?_ | refine brF ?_)); conv => whnf); (refine And.intro ?_ ?_ <;> (intro h; rw [h]; revert h; intro _)))); all_goals ((repeat ((conv => whnf); first | refine brT ?_ | refine brF ?_)); conv => whnf))
  all_goals (refine fin ?_; simp [*])
def fresh (ps : List Per) (n : ByteArray) (k : Nat) : Bool := (ps.take k).all fun q => notB (eqS q.name n)
theorem fresh_succ {ps : List Per} {n : ByteArray} {k : Nat} (h : k < ps.length) : fresh ps n (k + 1) = (fresh ps n k && notB (eqS ps[k].name n)) := by
  unfold fresh
  rw [List.take_succ_eq_append_getElem h, List.all_append]
  simp
theorem fresh_no {ps : List Per} {n : ByteArray} {k i : Nat} (hi : k < i) (h : k < ps.length) (e : eqS ps[k].name n = true) : fresh ps n i = false := by
  unfold fresh
  rw [List.all_eq_false]
  refine ⟨ps[k], ?_, by simp [notB, e]⟩
  rw [List.mem_take_iff_getElem]
  exact ⟨k, by omega, rfl⟩
def shapeOk (p : Per) : Bool := isName p.name && ((leI 1 p.sex && leI p.sex 2) && ((leI 0 p.born && leI p.born 9999) && (eqI p.died (-1) || (leI p.born p.died && leI p.died 9999))))
def personAt (ps : List Per) (i : Nat) (p : Per) : Bool :=
  shapeOk p && (fresh ps p.name i && (parentAt ps i p.father 1 1 p.born && parentAt ps i p.mother 2 0 p.born))
theorem l1Person_spec (ps : List Per) (us : List Uni) (i : Nat) (hi : i < ps.length) (hl : ps.length ≤ 40) : FSpec env.P 99 [famLV ps us, .int .i64 (i : Int)] (.bool (personAt ps i ps[i])) := by
  refine FSpec_of_code env_ok (fn := Tryz.f99) Tryz.func99 rfl Tryz.call99 _ _ ?_
  ((repeat ((conv => whnf); first | refine brT ?_ | refine brF ?_)); conv => whnf)
  refine ⟨i, ps[i].lv, rfl, by simp [hi], rfl, ?_⟩
  ((repeat' (((repeat ((conv => whnf); first | refine brT ?_ | refine brF ?_)); conv => whnf); first | (refine And.intro ?_ ?_ <;> (intro h; rw [h]; revert h; intro _)) | (refine Exists.intro true (And.intro (a := drawB _ _ = true) (by kernel_rfl) ?_)) | (refine Exists.intro _ (And.intro (isName_spec ps[i].name) ?_)) | (refine Exists.intro _ (And.intro (l1In_spec _ _ _) ?_)))); all_goals ((repeat ((conv => whnf); first | refine brT ?_ | refine brF ?_)); conv => whnf))
  all_goals first
    | (refine fin ?_; grind [personAt, shapeOk, notB_t, notB_f])
    | skip
  all_goals
    have hs : shapeOk ps[i] = true := by grind [shapeOk, notB_t, notB_f]
    refine loop_rule (α := Nat) (fun k => [(6, .int .i64 (k : Int))]) (fun k => [.box (famLV ps us), .box ps[i].lv]) (fun k => i - k) (fun k => k ≤ i ∧ fresh ps ps[i].name k = true) 0 ⟨Nat.zero_le _, rfl⟩ ?_ ?_
    · refine ⟨?_, ⟨rfl, rfl, trivial⟩, rfl, rfl⟩
      ((repeat ((conv => whnf); refine ⟨rfl, ?_⟩)); trivial)
    rintro k ⟨hk, hf⟩
    ((repeat ((conv => whnf); first | refine brT ?_ | refine brF ?_)); conv => whnf)
    (refine ⟨fun g1 => ?_, fun g1 => ?_⟩ <;> rw [g1])
    · have hlt : k < i := by rw [ltI_t] at g1; omega
      have hkl : k < ps.length := by omega
      ((repeat ((conv => whnf); first | refine brT ?_ | refine brF ?_)); conv => whnf)
      refine ⟨true, by kernel_rfl, ?_⟩
      ((repeat ((conv => whnf); first | refine brT ?_ | refine brF ?_)); conv => whnf)
      refine ⟨k, ps[k].lv, rfl, by simp [hkl], rfl, ?_⟩
      ((repeat ((conv => whnf); first | refine brT ?_ | refine brF ?_)); conv => whnf)
      (refine ⟨fun g2 => ?_, fun g2 => ?_⟩ <;> rw [g2])
      · ((repeat ((conv => whnf); first | refine brT ?_ | refine brF ?_)); conv => whnf)
        refine fin ?_
        simp [personAt, fresh_no hlt hkl g2]
      · ((repeat ((conv => whnf); first | refine brT ?_ | refine brF ?_)); conv => whnf)
        refine round_end (k + 1) ⟨hlt, by rw [fresh_succ hkl, hf, g2]; simp [notB]⟩ (by omega) ⟨?_, ⟨rfl, rfl, trivial⟩, rfl, rfl⟩
        have e := step_i hlt (by unfold Go.maxLen; omega)
        ((repeat ((conv => whnf); first | refine ⟨e, ?_⟩ | refine ⟨rfl, ?_⟩)); trivial)
    · have hki : k = i := by rw [ltI_f] at g1; omega
      subst hki
      ((repeat ((conv => whnf); first | refine brT ?_ | refine brF ?_)); conv => whnf)
      refine ⟨_, l1Parent_spec ps us k hi _ _ _, ?_⟩
      ((repeat ((conv => whnf); first | refine brT ?_ | refine brF ?_)); conv => whnf)
      (refine ⟨fun g2 => ?_, fun g2 => ?_⟩ <;> rw [g2])
      · ((repeat ((conv => whnf); first | refine brT ?_ | refine brF ?_)); conv => whnf)
        refine ⟨_, l1Parent_spec ps us k hi _ _ _, ?_⟩
        ((repeat ((conv => whnf); first | refine brT ?_ | refine brF ?_)); conv => whnf)
        refine fin ?_
        simp [personAt, hs, hf, g2]
      · ((repeat ((conv => whnf); first | refine brT ?_ | refine brF ?_)); conv => whnf)
        refine fin ?_
        simp [personAt, g2]
end Go.Proofs.YtgkjafmmekjjlaaGreat
