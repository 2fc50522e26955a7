/- Contracts of functions of the program and of its model, told over readings. -/
import Derived.Test.YtgkjafmmekjjlaaChecked
import Derived.WalkKit
import Derived.Lib.Walk
import Derived.Laws.Bits64b
import Derived.Laws.CopyOwn
import Derived.Deep.RegionLaw
import Derived.Deep.LoopGhost
import Derived.Deep.OwnRows
import Derived.Deep.RegionHeld
import Derived.KernelRfl
import Derived.OwnWalk
import Derived.Test.YtgkjafmmekjjlaaBWGA
import Derived.Test.YtgkjafmmekjjlaaBWGB
import Derived.Test.YtgkjafmmekjjlaaBWGC
import Derived.Test.YtgkjafmmekjjlaaBLgPM
import Derived.Test.YtgkjafmmekjjlaaBLgMF
set_option linter.unusedVariables false
set_option linter.unusedSimpArgs false
/-! slices.Repeat of one number, walked at this program. -/
namespace Go.Proofs.SB
open Go.RowKit
set_option maxHeartbeats 2000000
set_option maxRecDepth 100000
theorem mulOne (n : Nat) (hn : n ≤ 40) (w : World) : Calls Try.prog 186 #[.int .u64 1, .int .u64 n] w fun e w' => e = .returned (.tuple #[.int .u64 0, .int .u64 n]) ∧ w' = w := by
  have a1 : bits .and .u64 1 4294967295 = 1 := by decide
  have a2 : bits .and .u64 (n : Int) 4294967295 = n := by
    have h := bits_and_u64_nat n 4294967295 (by omega) (by omega)
    rw [show ((4294967295 : Nat) : Int) = 4294967295 from rfl] at h
    rw [h]
    congr 1
    have : n &&& 2 ^ 32 - 1 = n % 2 ^ 32 := Nat.and_two_pow_sub_one_eq_mod n 32
    rw [show (4294967295 : Nat) = 2 ^ 32 - 1 from rfl, this]
    exact Nat.mod_eq_of_lt (by omega)
  have a3 : (n : Int) / 4294967296 = 0 := by omega
  have a4 : bits .and .u64 0 4294967295 = 0 := by decide
  go_enter Try.func186, Try.ntmps186
  go_wp2
  go_ret2
  exact ⟨rfl, rfl⟩
theorem mulOne' (n : Nat) (hn : n ≤ 40) (w : World) : Calls Try.prog 166 #[.int .u64 1, .int .u64 n] w fun e w' => e = .returned (.tuple #[.int .u64 0, .int .u64 n]) ∧ w' = w := by
  go_enter Try.func166, Try.ntmps166
  go_wp2_with (go_at_call 186; refine (mulOne n hn _).mono ?_; rintro e w' ⟨rfl, rfl⟩)
  go_ret2
  exact ⟨rfl, rfl⟩
theorem wrap64n (n : Nat) (hn : n ≤ 40) : IntKind.i64.wrap (n : Int) = n := by rw [IntKind.wrap_i64]; omega
theorem wrapU64n (n : Nat) (hn : n ≤ 40) : IntKind.u64.wrap (n : Int) = n := by rw [IntKind.wrap_u64]; omega
theorem intInfo : (Try.prog.info? 3).map (fun i => (i.zero, i.size, i.bytes)) = some (some (.int .i64 0), 1, 8) := by kernel_rfl
theorem intSize : (Try.prog.info? 3).map (·.size) = some 1 := by kernel_rfl
/-- So many of the number stand in a row, zeros behind them. -/
def part (c : Int) (n k : Nat) : List Value := List.replicate k (.int .i64 c) ++ List.replicate (n - k) (.int .i64 0)
theorem part_len {c : Int} {n k : Nat} (h : k ≤ n) : (part c n k).length = n := by simp [part]; omega
theorem part_start (c : Int) (n : Nat) : part c n 0 = List.replicate n (.int .i64 0) := by simp [part]
theorem part_all (c : Int) (n : Nat) : part c n n = List.replicate n (.int .i64 c) := by simp [part]
theorem part_splice {c : Int} {n k m : Nat} (h : k + m ≤ n) : splice (part c n k) k (List.replicate m (.int .i64 c)) = part c n (k + m) := by
  unfold splice part
  rw [List.take_append_of_le_length (by simp), List.take_of_length_le (by simp), List.length_replicate, List.drop_append, List.drop_eq_nil_of_le (by simp), List.length_replicate, List.nil_append, List.drop_replicate, ← List.append_assoc, List.replicate_append_replicate]
  congr 2
  omega
theorem part_get {c : Int} {n k j : Nat} (h : j < k) : (part c n k)[j]? = some (.int .i64 c) := by
  unfold part
  rw [List.getElem?_append_left (by simp [h]), List.getElem?_replicate, if_pos h]
theorem made_zero (n : Nat) : madeCells #[(.int .i64 0 : Value)] n = (List.replicate n (.int .i64 0 : Value)).toArray := by
  refine Array.ext (by simp [madeCells]) fun i h1 h2 => ?_
  simp [madeCells, Nat.mod_one]
theorem addr0 (b j : Nat) : (⟨b, 0, none⟩ : Addr).add j = ⟨b, j, none⟩ := by unfold Addr.add; split <;> simp_all
/-- What one copy of the row's head behind itself does. -/
theorem copyStep {c : Int} {n k m : Nat} {g B : Nat} {w w0 : World} (ad : Addr) (dl dc sl sc : Nat) (new : w.heap[g]? = some (.cells (part c n k).toArray 3 (0, 0))) (hb : Below B w0 w ∧ w0.drawn ≤ w.drawn) (hB : B ≤ g) (hk : k + m ≤ n) (hm : m = Nat.min sl dl)
    (src : ∀ j, j < m → w.cell? (ad.add j) = some (.int .i64 c)) :
    ∃ w', (Builtin.copy_ #[27, 27] 3 #[.slice (some ⟨g, k, none⟩) dl dc, .slice (some ad) sl sc]).run Try.prog w = .ok (goInt m) w' ∧ w'.heap[g]? = some (.cells (part c n (k + m)).toArray 3 (0, 0)) ∧ Below B w0 w' ∧ w0.drawn ≤ w'.drawn := by
  have hl : (List.replicate m (Value.int .i64 c)).length = m := by simp
  have c0 := run_copy_row (P := Try.prog) w 27 27 3 3 g k dl dc ad sl sc (part c n k).toArray 3 (List.replicate m (.int .i64 c)) Try.underlying27 intSize new (by rw [hl, hm])
    (fun j v hv => by
      rw [List.getElem?_replicate] at hv
      split at hv
      · rename_i h
        simp only [Option.some.injEq] at hv
        subst hv; exact src j h
      · cases hv) (by rw [List.size_toArray, part_len (by omega), hl]; omega) (by intro v hv; rw [(List.mem_replicate.1 hv).2]; rfl)
  rw [hl] at c0
  refine ⟨_, c0, ?_, below_setRow hb.1 hB _, hb.2⟩
  rw [setRow_heap w g _ _ _ _ new, ← part_splice hk]
  unfold splice
  simp
theorem repeatRun (w : World) (ad : Addr) (cap : Nat) (c : Int) (n : Nat) (h1 : 1 ≤ n) (hn : n ≤ 40) (hcell : w.cell? ad = some (.int .i64 c)) (hlt : ad.block < w.heap.size) :
    Calls Try.prog 140 #[.slice (some ad) 1 cap, .int .i64 n] w fun e w' => e = .returned (.slice (some ⟨w.heap.size, 0, none⟩) n n) ∧
      w'.heap[w.heap.size]? = some (.cells (List.replicate n (Value.int .i64 c)).toArray 3 (0, 0)) ∧ Below w.heap.size w w' ∧ w.drawn ≤ w'.drawn := by
  have e1 := wrap64n n hn
  have e2 := wrapU64n n hn
  have old : (w.alloc (.cells (List.replicate n (.int .i64 0 : Value)).toArray 3)).cell? ad = some (.int .i64 c) := by
    rw [← hcell]; exact World.cell?_alloc_some _ _ _ (by rw [hcell]; rfl)
  have new : (w.alloc (.cells (List.replicate n (.int .i64 0 : Value)).toArray 3)).heap[w.heap.size]? = some (.cells (part c n 0).toArray 3 (0, 0)) := by
    rw [part_start]; unfold World.alloc; exact Array.getElem?_push_size ..
  have b0 : Below w.heap.size w (w.alloc (.cells (List.replicate n (.int .i64 0 : Value)).toArray 3)) ∧ w.drawn ≤ (w.alloc (.cells (List.replicate n (.int .i64 0 : Value)).toArray 3)).drawn := ⟨(Below.refl _ w).alloc (Nat.le_refl _) _, Nat.le_refl _⟩
  go_enter Try.func140, Try.ntmps140
  go_wp2_with (go_at_call 166; refine (mulOne' n hn _).mono ?_; rintro e w' ⟨rfl, rfl⟩)
  rw [run_make_row' 27 3 (.int .i64 0) 8 Try.underlying27 intInfo rfl _ _ n (by omega) (by omega)]
  simp only [Result.andThen]
  rw [Oper.upon_value]
  rw [made_zero]
  generalize w'.alloc (.cells (List.replicate n (.int .i64 0 : Value)).toArray 3) = W at old new b0 ⊢
  obtain ⟨W1, c0, new1, b1⟩ := copyStep (m := 1) ad n n 1 cap new b0 (Nat.le_refl _) (by omega) (Nat.min_eq_left h1).symm (fun j hj => by
    obtain rfl : j = 0 := by omega
    simpa [Addr.add] using old)
  go_wp2
  rw [Nat.zero_add] at new1
  clear c0 new b0 old
  go_loopg [8] n (fun g x wr => ∃ k : Nat, x = .int .i64 k ∧ 1 ≤ k ∧ k ≤ n ∧ n - k ≤ g ∧ Hid (wr.heap[w'.heap.size]? = some (.cells (part c n k).toArray 3 (0, 0))) ∧ Below w'.heap.size w' wr ∧ w'.drawn ≤ wr.drawn)
  case atStart => exact ⟨1, rfl, Nat.le_refl _, h1, by omega, new1, b1⟩
  case round =>
    obtain ⟨k, rfl, k1, kn, kg, new2, b2⟩ := hrel
    have new2 := new2.out
    by_cases hlt : k < n
    · have hltz : (k : Int) < (n : Int) := by omega
      have hnk : ¬ n = k := by omega
      obtain ⟨m, hm⟩ : ∃ m, m = Nat.min k (n - k) := ⟨_, rfl⟩
      have hm1 : m ≤ k := by rw [hm]; exact Nat.min_le_left ..
      have hm2 : m ≤ n - k := by rw [hm]; exact Nat.min_le_right ..
      have hm3 : 1 ≤ m := by rw [hm]; exact Nat.le_min.2 ⟨k1, by omega⟩
      obtain ⟨W2, c2, new3, b3⟩ := copyStep (w := wr.drew) (m := m) ⟨w'.heap.size, 0, none⟩ (n - k) (n - k) k n new2 ⟨Below.drew b2.1, Nat.le_trans b2.2 (Nat.le_succ _)⟩ (Nat.le_refl _) (by omega) hm (fun j hj => by
        rw [addr0]
        show wr.cell? ⟨w'.heap.size, j, none⟩ = _
        simp only [World.cell?, new2]
        simpa using part_get (c := c) (n := n) (k := k) (j := j) (by omega))
      have w3 : IntKind.i64.wrap ((k : Int) + (m : Int)) = ((k + m : Nat) : Int) := by rw [IntKind.wrap_i64]; omega
      clear hm
      go_wp2
      go_region
      go_wp2
      go_roundg (n - (k + m))
      case measure => omega
      case rel => exact ⟨k + m, by simp, by omega, by omega, Nat.le_refl _, new3, b3⟩
    · have hltz : ¬ (k : Int) < (n : Int) := by omega
      obtain rfl : k = n := by omega
      go_wp2
      go_ret
      exact ⟨rfl, by rw [part_all] at new2; simpa using new2, b2⟩
end Go.Proofs.SB


namespace Go.Proofs.Ytgkjafmmekjjlaa
open Go.Lg Go.RowKit
set_option maxHeartbeats 1600000
set_option maxRecDepth 10000
set_option linter.unusedVariables false
set_option linter.unusedSimpArgs false

theorem sim_none {X : Nat → Prop} {B : Nat} {w : World} {pl : Nat → PV} (g : Go.Lg.Good X B ⟨w, [], pl⟩ [] pl w) : Sim X B ⟨w, [], pl⟩ ⟨[], []⟩ ⟨#[], []⟩ w pl :=
  ⟨g, rfl, rfl, fun t x h => by simp at h, ⟨Nat.le_refl _, fun _ _ _ => rfl, fun _ _ h => h, fun _ _ _ h => h, fun _ _ _ _ h => h⟩⟩
theorem RCs_ints (ρ : Ctx) (c : Int) : ∀ n, RCs ρ (List.replicate n (LV.int .i64 c)) (List.replicate n (Value.int .i64 c))
  | 0 => by simp only [List.replicate, RCs]
  | n + 1 => by
    simp only [List.replicate, RCs]
    exact ⟨[.int .i64 c], List.replicate n (.int .i64 c), rfl, by simp only [RC], RCs_ints ρ c n⟩
/-- slices.Repeat of one number. -/
theorem repeat_h (c : Int) (n : Nat) (h1 : 1 ≤ n) (hn : n ≤ 40) :
    HSpec env.P 140 [.sl [.int .i64 c], .int .i64 (n : Int)] [] (.hs 0 (List.replicate n (LV.int .i64 c)).length) [.arr 3 1 (List.replicate n (LV.int .i64 c))] := by
  unfold HSpec
  refine ⟨Try.call140, fun X B w vs pl g hsz hargs => ?_⟩
  obtain ⟨v0, v1, rfl⟩ : ∃ v0 v1, vs = #[v0, v1] := by
    obtain ⟨vl⟩ := vs
    match vl, hsz with
    | [a, b], _ => exact ⟨a, b, rfl⟩
  have a0 := hargs 0 _ v0 rfl rfl
  have a1 := hargs 1 _ v1 rfl rfl
  simp only [RT, RT1, RC, RCs] at a0 a1
  simp only [List.cons.injEq, and_true] at a0 a1
  obtain ⟨a, cap, rfl, hc1, hc2, hz | ⟨ad, es, k, rfl, hb, ho, ⟨c1, c2, rfl, rfl, rfl⟩, hcells, hk⟩⟩ := a0
  · cases hz
  subst a1
  have hcell : w.cell? ad = some (.int .i64 c) := by
    have := hcells.2 0 (.int .i64 c) (by simp)
    change w.cell? _ = _ at this
    obtain ⟨blk, off, spot⟩ := ad
    have hs : spot = none := hcells.1
    subst hs
    simpa using this
  refine (SB.repeatRun w ad cap c n h1 hn hcell hb).mono ?_
  rintro e w' ⟨rfl, hrow, hbel0, hinc⟩
  have hbel : Go.Lg.Below w.heap.size w w' := ⟨hbel0.os, hbel0.tape, hbel0.output, hbel0.size, hbel0.block, hinc⟩
  have hl : (List.replicate n (LV.int .i64 c)).length = n := by simp
  have hown : w'.ownsRow B 3 1 (.slice (some ⟨w.heap.size, 0, none⟩) (List.replicate n (LV.int .i64 c)).length n) (List.replicate n (LV.int .i64 c)).length (List.replicate n (Value.int .i64 c)) := by
    rw [hl]
    exact ⟨by simp, .inr ⟨_, n, _, rfl, g.base.1, hrow, Nat.le_refl _, by unfold Go.maxLen; omega, by simp, by simp [List.take_replicate]⟩⟩
  obtain ⟨pl', s', r', le'⟩ := sim_newArr (sim_none g) (e := 3) (k := 1) (cap := n) (xs := List.replicate n (LV.int .i64 c)) (es := List.replicate n (Value.int .i64 c)) hbel hown (RCs_ints _ c n)
    (by intro x hx; rw [(List.mem_replicate.1 hx).2]; rfl) (by omega)
  rw [hl] at r'
  refine ⟨_, pl', rfl, s'.good, ?_, le'⟩
  rw [hl]; exact r'
end Go.Proofs.Ytgkjafmmekjjlaa


namespace Go.Proofs.Ytgkjafmmekjjlaa
open Go.Lg
set_option maxHeartbeats 800000
set_option linter.unusedVariables false
set_option linter.unusedSimpArgs false

/-! ### Steps up -/
/-- r is a parent of x. -/
def isPa (ps : List Per) (x r : Nat) : Prop := ∃ h : x < ps.length, ps[x].father = (r : Int) ∨ ps[x].mother = (r : Int)
/-- So many steps lead up from one person to another. -/
inductive UpN (ps : List Per) : Nat → Nat → Nat → Prop
  | zero (p : Nat) : UpN ps 0 p p
  | step {n p r q : Nat} : isPa ps p r → UpN ps n r q → UpN ps (n + 1) p q
theorem UpN.snoc {ps : List Per} {n p x q : Nat} (h : UpN ps n p x) (hx : isPa ps x q) : UpN ps (n + 1) p q := by
  induction h with
  | zero p => exact .step hx (.zero q)
  | step h1 h2 ih => exact .step h1 (ih hx)
theorem UpN.last {ps : List Per} {n p q : Nat} (h : UpN ps (n + 1) p q) : ∃ x, UpN ps n p x ∧ isPa ps x q := by
  induction n generalizing p with
  | zero =>
    cases h with
    | step h1 h2 => cases h2 with | zero => exact ⟨p, .zero p, h1⟩
  | succ n ih =>
    cases h with
    | step h1 h2 =>
      obtain ⟨x, hx, hq⟩ := ih h2
      exact ⟨x, .step h1 hx, hq⟩
theorem isPa_lt {ps : List Per} (hp : parsIn ps) {x r : Nat} (h : isPa ps x r) : r < x := by
  obtain ⟨hx, h⟩ := h
  have := hp x hx
  rcases h with h | h
  · rcases this.1 with h1 | h1 <;> omega
  · rcases this.2 with h1 | h1 <;> omega
theorem UpN.le {ps : List Per} (hp : parsIn ps) {n p q : Nat} (h : UpN ps n p q) : q + n ≤ p := by
  induction h with
  | zero p => omega
  | step h1 h2 ih => have := isPa_lt hp h1; omega
theorem UpN.lt {ps : List Per} {n p q : Nat} (h : UpN ps n p q) (hq : q < ps.length) (h0 : n ≠ 0) : p < ps.length := by
  cases h with
  | zero => exact absurd rfl h0
  | step h1 _ => exact h1.1
theorem UpN.add {ps : List Per} {n p x : Nat} (h : UpN ps n p x) {m q : Nat} (k : UpN ps m x q) : UpN ps (n + m) p q := by
  induction h with
  | zero p => rw [Nat.zero_add]; exact k
  | step h1 h2 ih => rw [Nat.add_right_comm]; exact .step h1 (ih k)
/-- The depth of a person. -/
def dpt (ps : List Per) (i : Nat) : Int := (depths ps).getD i 0
theorem depTo_get (ps : List Per) {i k : Nat} (h : i < k) : ∀ n, k ≤ n → (depTo ps n).getD i 0 = (depTo ps k).getD i 0 := by
  intro n hn
  induction n with
  | zero => omega
  | succ n ih =>
    rcases Nat.lt_or_ge n k with h1 | h1
    · have : k = n + 1 := by omega
      subst this; rfl
    · have e := ih h1
      rw [← e]
      simp only [depTo, List.getD_eq_getElem?_getD]
      rw [List.getElem?_append_left (by rw [depTo_len]; omega)]
theorem dpt_rec {ps : List Per} {i : Nat} (h : i < ps.length) : dpt ps i = dep2 (depTo ps i) ps[i] := by
  unfold dpt depths
  rw [depTo_get ps (i := i) (k := i + 1) (by omega) ps.length (by omega), depTo_succ h, List.getD_eq_getElem?_getD, List.getElem?_append_right (by rw [depTo_len]; exact Nat.le_refl _), depTo_len, Nat.sub_self]
  rfl
theorem dpt_par {ps : List Per} (hp : parsIn ps) {x r : Nat} (h : isPa ps x r) : dpt ps r + 1 ≤ dpt ps x := by
  have hr := isPa_lt hp h
  obtain ⟨hx, h⟩ := h
  have e : dep (depTo ps x) (r : Int) = dpt ps r + 1 := by
    unfold dep
    rw [leI_t.2 (by omega : (0 : Int) ≤ (r : Int))]
    show (depTo ps x).getD r 0 + 1 = _
    unfold dpt depths
    rw [depTo_get ps hr ps.length (by omega)]
  rw [dpt_rec hx]
  unfold dep2 maxI
  rcases h with h | h
  · rw [h, e]; split <;> omega
  · rw [h, e]; split <;> omega
theorem dpt_range {ps : List Per} (i : Nat) : 0 ≤ dpt ps i := by
  unfold dpt
  rw [List.getD_eq_getElem?_getD]
  cases e : (depths ps)[i]? with
  | none => exact Int.le_refl _
  | some v => exact (depTo_range ps _ v (List.mem_of_getElem? e)).1
theorem dpt_small {ps : List Per} (h : shallow (depths ps) = true) (i : Nat) : dpt ps i ≤ 10 := by
  unfold dpt
  rw [List.getD_eq_getElem?_getD]
  cases e : (depths ps)[i]? with
  | none => show (0 : Int) ≤ 10; omega
  | some v =>
    unfold shallow at h
    exact leI_t.1 (List.all_eq_true.1 h v (List.mem_of_getElem? e))
theorem UpN.dpt {ps : List Per} (hp : parsIn ps) {n p q : Nat} (h : UpN ps n p q) : dpt ps q + n ≤ dpt ps p := by
  induction h with
  | zero p => simp
  | step h1 h2 ih => have := dpt_par hp h1; push_cast; omega
theorem UpN.small {ps : List Per} (hp : parsIn ps) (hs : shallow (depths ps) = true) {n p q : Nat} (h : UpN ps n p q) : n ≤ 10 := by
  have h1 := h.dpt hp
  have h2 := dpt_small hs p
  have h3 := dpt_range (ps := ps) q
  omega
/-- The least number of steps up; -1 if there are none. -/
def isLeast (ps : List Per) (p q : Nat) (m : Int) : Prop := (∀ n, UpN ps n p q → 0 ≤ m ∧ m ≤ n) ∧ (m = -1 ∨ (0 ≤ m ∧ UpN ps m.toNat p q))
theorem isLeast.zero {ps : List Per} {p q : Nat} {m : Int} (h : isLeast ps p q m) : m = 0 ↔ p = q := by
  constructor
  · intro e
    subst e
    rcases h.2 with h2 | ⟨_, h3⟩
    · omega
    · cases h3; rfl
  · intro e
    subst e
    have := h.1 0 (.zero p); omega
theorem isLeast.range {ps : List Per} {p q : Nat} {m : Int} (h : isLeast ps p q m) : -1 ≤ m := by
  rcases h.2 with h | ⟨h, _⟩ <;> omega

/-! ### As the model reckons them -/
theorem known_pa {ps : List Per} (hp : parsIn ps) {x : Nat} (h : x < ps.length) {v : Int} : v ∈ known ps[x] ↔ ∃ r : Nat, v = r ∧ isPa ps x r := by
  have := hp x h
  unfold known notNone
  simp only [List.mem_filter, List.mem_cons, List.not_mem_nil, or_false, notB_t, eqI_f]
  constructor
  · rintro ⟨h1, h2⟩
    have h0 : 0 ≤ v := by
      rcases h1 with h1 | h1
      · rcases this.1 with k | k <;> omega
      · rcases this.2 with k | k <;> omega
    refine ⟨v.toNat, by omega, h, ?_⟩
    rcases h1 with h1 | h1
    · exact .inl (by omega)
    · exact .inr (by omega)
  · rintro ⟨r, rfl, _, h1⟩
    refine ⟨?_, by omega⟩
    rcases h1 with h1 | h1
    · exact .inl h1.symm
    · exact .inr h1.symm
/-- One parent is laid so many steps up, if that is less. -/
def rlx (o : List Int) (d : Int) (q : Int) : List Int := match ltI (o.getD q.toNat 0) 0 || ltI d (o.getD q.toNat 0) with | true => o.set q.toNat d | false => o
def rlxs (o : List Int) (d : Int) (qs : List Int) : List Int := qs.foldl (fun o q => rlx o d q) o
def relax (ps : List Per) (o : List Int) (x : Nat) : List Int := match ltI (o.getD x 0) 0 with
  | true => o
  | false => match ps[x]? with | some p => rlxs o (o.getD x 0 + 1) (known p) | none => o
def upTo (ps : List Per) (p : Nat) : Nat → List Int
  | 0 => (List.replicate ps.length (-1)).set p 0
  | j + 1 => relax ps (upTo ps p j) (ps.length - 1 - j)
/-- spec.l8Up. -/
def upS (ps : List Per) (p : Nat) : List Int := upTo ps p ps.length
theorem rlx_len (o : List Int) (d q : Int) : (rlx o d q).length = o.length := by unfold rlx; split <;> simp
theorem rlxs_len (d : Int) : ∀ (qs : List Int) (o : List Int), (rlxs o d qs).length = o.length
  | [], o => rfl
  | q :: qs, o => by show (rlxs (rlx o d q) d qs).length = _; rw [rlxs_len d qs, rlx_len]
theorem relax_len (ps : List Per) (o : List Int) (x : Nat) : (relax ps o x).length = o.length := by
  unfold relax; split
  · rfl
  · split
    · exact rlxs_len _ _ _
    · rfl
theorem upTo_len (ps : List Per) (p : Nat) : ∀ j, (upTo ps p j).length = ps.length
  | 0 => by simp [upTo]
  | j + 1 => by rw [upTo, relax_len, upTo_len ps p j]
theorem getD_set {o : List Int} {i j : Nat} {v : Int} (h : i < o.length) : (o.set i v).getD j 0 = if i = j then v else o.getD j 0 := by
  simp only [List.getD_eq_getElem?_getD, List.getElem?_set]
  split
  · rename_i e; subst e; simp [h]
  · rfl
/-- What may be known of the row when all above x have been looked at. -/
structure UpInv (ps : List Per) (p x : Nat) (o : List Int) : Prop where
  len : o.length = ps.length
  own : o.getD p 0 = 0
  real : ∀ q, q < ps.length → o.getD q 0 = -1 ∨ (0 ≤ o.getD q 0 ∧ UpN ps (o.getD q 0).toNat p q)
  done : ∀ y, x ≤ y → y < ps.length → 0 ≤ o.getD y 0 → ∀ r, isPa ps y r → 0 ≤ o.getD r 0 ∧ o.getD r 0 ≤ o.getD y 0 + 1
theorem rlx_get {o : List Int} {d q : Int} (h0 : 0 ≤ q) (hq : q.toNat < o.length) (j : Nat) : (rlx o d q).getD j 0 = if q.toNat = j ∧ (o.getD j 0 < 0 ∨ d < o.getD j 0) then d else o.getD j 0 := by
  unfold rlx
  split
  · rename_i e
    simp only [Bool.or_eq_true, ltI_t] at e
    rw [getD_set hq]
    by_cases hj : q.toNat = j
    · rw [if_pos hj, if_pos ⟨hj, by rw [← hj]; exact e⟩]
    · rw [if_neg hj, if_neg (fun h => hj h.1)]
  · rename_i e
    rw [Bool.or_eq_false_iff, ltI_f, ltI_f] at e
    rw [if_neg]
    rintro ⟨rfl, h⟩
    omega
/-- What laying all parents of x does. -/
theorem rlxs_get {n : Nat} {d : Int} (hd : 0 ≤ d) : ∀ (qs : List Int) (o : List Int), o.length = n → (∀ v ∈ qs, 0 ≤ v ∧ v.toNat < n) →
    ∀ j, ((rlxs o d qs).getD j 0 = o.getD j 0 ∨ ((j : Int) ∈ qs ∧ (rlxs o d qs).getD j 0 = d ∧ (o.getD j 0 < 0 ∨ d < o.getD j 0))) ∧ ((j : Int) ∈ qs → 0 ≤ (rlxs o d qs).getD j 0 ∧ (rlxs o d qs).getD j 0 ≤ d)
  | [], o, _, _, j => ⟨.inl rfl, fun h => by simp at h⟩
  | q :: qs, o, hl, hq, j => by
    obtain ⟨h0, h1⟩ := hq q List.mem_cons_self
    have ih := rlxs_get hd qs (rlx o d q) (by rw [rlx_len, hl]) (fun v hv => hq v (List.mem_cons_of_mem _ hv)) j
    have e := rlx_get (d := d) h0 (by rw [hl]; exact h1) j
    change ((rlxs (rlx o d q) d qs).getD j 0 = o.getD j 0 ∨ ((j : Int) ∈ q :: qs ∧ (rlxs (rlx o d q) d qs).getD j 0 = d ∧ _)) ∧ ((j : Int) ∈ q :: qs → 0 ≤ (rlxs (rlx o d q) d qs).getD j 0 ∧ (rlxs (rlx o d q) d qs).getD j 0 ≤ d)
    obtain ⟨i1, i2⟩ := ih
    generalize (rlxs (rlx o d q) d qs).getD j 0 = R at i1 i2 ⊢
    by_cases hj : q.toNat = j
    · have hm : (j : Int) ∈ q :: qs := by rw [show (j : Int) = q by omega]; exact List.mem_cons_self
      by_cases hc : o.getD j 0 < 0 ∨ d < o.getD j 0
      · rw [if_pos ⟨hj, hc⟩] at e
        rw [e] at i1
        have : R = d := by rcases i1 with i1 | i1 <;> omega
        exact ⟨.inr ⟨hm, this, hc⟩, fun _ => by omega⟩
      · rw [if_neg (fun h => hc h.2)] at e
        rw [e] at i1
        have hR : R = o.getD j 0 := by rcases i1 with i1 | ⟨_, _, i1⟩; exact i1; exact absurd i1 hc
        exact ⟨.inl hR, fun _ => by omega⟩
    · rw [if_neg (fun h => hj h.1)] at e
      rw [e] at i1
      have hne : (j : Int) ≠ q := by omega
      refine ⟨?_, fun h => i2 ?_⟩
      · rcases i1 with i1 | ⟨h, i1⟩
        · exact .inl i1
        · exact .inr ⟨List.mem_cons_of_mem _ h, i1⟩
      · rcases List.mem_cons.1 h with h | h
        · exact absurd h hne
        · exact h
theorem kn_in {ps : List Per} (hp : parsIn ps) {x : Nat} (h : x < ps.length) : ∀ v ∈ known ps[x], 0 ≤ v ∧ v.toNat < x := fun v hv => by
  obtain ⟨r, rfl, hr⟩ := (known_pa hp h).1 hv
  have := isPa_lt hp hr
  omega
theorem UpInv.step {ps : List Per} (hp : parsIn ps) {p x : Nat} {o : List Int} (hx : x < ps.length) (h : UpInv ps p (x + 1) o) : UpInv ps p x (relax ps o x) := by
  have hl : (relax ps o x).length = ps.length := by rw [relax_len, h.len]
  unfold relax at hl ⊢
  split at hl
  · rename_i hneg
    rw [ltI_t] at hneg
    refine ⟨h.len, h.own, h.real, fun y hy hyl hy0 => ?_⟩
    rcases Nat.lt_or_ge x y with h1 | h1
    · exact h.done y h1 hyl hy0
    · have : y = x := by omega
      subst this; omega
  · rename_i hpos
    rw [ltI_f] at hpos
    rw [List.getElem?_eq_getElem hx] at hl ⊢
    have hk := kn_in hp hx
    have g := rlxs_get (n := ps.length) (d := o.getD x 0 + 1) (by omega) (known ps[x]) o h.len (fun v hv => ⟨(hk v hv).1, by have := (hk v hv).2; omega⟩)
    have hsame : ∀ j, x ≤ j → (rlxs o (o.getD x 0 + 1) (known ps[x])).getD j 0 = o.getD j 0 := fun j hj => by
      rcases (g j).1 with e | ⟨e, _⟩
      · exact e
      · have := hk _ e; omega
    have hupx : UpN ps (o.getD x 0).toNat p x := by
      rcases h.real x hx with e | e
      · omega
      · exact e.2
    refine ⟨hl, ?_, ?_, ?_⟩
    · rcases (g p).1 with e | ⟨_, e, e2⟩
      · rw [e]; exact h.own
      · rw [h.own] at e2; omega
    · intro q hq
      rcases (g q).1 with e | ⟨hm, e, _⟩
      · show (rlxs o (o.getD x 0 + 1) (known ps[x])).getD q 0 = -1 ∨ _
        rw [e]; exact h.real q hq
      · right
        show 0 ≤ (rlxs o (o.getD x 0 + 1) (known ps[x])).getD q 0 ∧ _
        rw [e]
        obtain ⟨r, hr, hpa⟩ := (known_pa hp hx).1 hm
        have hqr : q = r := by omega
        subst hqr
        refine ⟨by omega, ?_⟩
        have := hupx.snoc hpa
        rwa [show (o.getD x 0 + 1).toNat = (o.getD x 0).toNat + 1 by omega]
    · intro y hy hyl hy0 r hr
      show 0 ≤ (rlxs o (o.getD x 0 + 1) (known ps[x])).getD r 0 ∧ (rlxs o (o.getD x 0 + 1) (known ps[x])).getD r 0 ≤ (rlxs o (o.getD x 0 + 1) (known ps[x])).getD y 0 + 1
      have hy0' : 0 ≤ o.getD y 0 := by rw [← hsame y hy]; exact hy0
      rw [hsame y hy]
      rcases Nat.lt_or_ge x y with h1 | h1
      · obtain ⟨d1, d2⟩ := h.done y h1 hyl hy0' r hr
        rcases (g r).1 with e | ⟨hm, e, e2⟩
        · rw [e]; exact ⟨d1, d2⟩
        · rw [e]; omega
      · have : y = x := by omega
        subst this
        exact (g r).2 ((known_pa hp hx).2 ⟨r, rfl, hr⟩)
theorem upTo_inv {ps : List Per} (hp : parsIn ps) {p : Nat} (h : p < ps.length) : ∀ j, j ≤ ps.length → UpInv ps p (ps.length - j) (upTo ps p j)
  | 0, _ => by
    have hl : p < (List.replicate ps.length (-1 : Int)).length := by simp [h]
    refine ⟨upTo_len ps p 0, ?_, ?_, fun y hy hyl => by omega⟩
    · show ((List.replicate ps.length (-1 : Int)).set p 0).getD p 0 = 0
      rw [getD_set hl, if_pos rfl]
    · intro q hq
      show ((List.replicate ps.length (-1 : Int)).set p 0).getD q 0 = -1 ∨ (0 ≤ ((List.replicate ps.length (-1 : Int)).set p 0).getD q 0 ∧ UpN ps (((List.replicate ps.length (-1 : Int)).set p 0).getD q 0).toNat p q)
      rw [getD_set hl]
      split
      · rename_i e; subst e; exact .inr ⟨by omega, .zero p⟩
      · left; simp [List.getD_eq_getElem?_getD, List.getElem?_replicate, hq]
  | j + 1, hj => by
    have := upTo_inv hp h j (by omega)
    rw [show ps.length - j = (ps.length - 1 - j) + 1 by omega] at this
    rw [show ps.length - (j + 1) = ps.length - 1 - j by omega]
    exact this.step hp (by omega)
theorem upS_len (ps : List Per) (p : Nat) : (upS ps p).length = ps.length := upTo_len ps p _
theorem upS_least {ps : List Per} (hp : parsIn ps) {p q : Nat} (h : p < ps.length) (hq : q < ps.length) : isLeast ps p q ((upS ps p).getD q 0) := by
  have inv := upTo_inv hp h ps.length (Nat.le_refl _)
  rw [Nat.sub_self] at inv
  refine ⟨fun n => ?_, inv.real q hq⟩
  show UpN ps n p q → _
  unfold upS
  induction n generalizing q with
  | zero =>
    intro hu
    cases hu
    rw [inv.own]; simp
  | succ n ih =>
    intro hu
    obtain ⟨x, hx, hpa⟩ := hu.last
    have i := ih hpa.1 hx
    have := inv.done x (Nat.zero_le _) hpa.1 i.1 q hpa
    push_cast
    omega
/-- So many steps up; -1 if there are none. -/
def upd (ps : List Per) (p q : Nat) : Int := (upS ps p).getD q 0

/-! ### As the program reckons them -/
def clRow (row pr : List Int) : List Int := List.zipWith (fun a b => minI a (b + 1)) row pr
def clRow0 (up : List (List Int)) (n k : Nat) (qs : List Int) : List Int := qs.foldl (fun row x => clRow row (up.getD x.toNat [])) (List.replicate n 11)
def clTo (ps : List Per) : Nat → List (List Int)
  | 0 => []
  | k + 1 => clTo ps k ++ [(clRow0 (clTo ps k) ps.length k (match ps[k]? with | some p => known p | none => [])).set k 0]
def clT (ps : List Per) : List (List Int) := clTo ps ps.length
def tooF (m : Int) : Int := match ltI m 0 with | true => 11 | false => m
theorem clTo_len (ps : List Per) : ∀ k, (clTo ps k).length = k
  | 0 => rfl
  | k + 1 => by simp [clTo, clTo_len ps k]
theorem clRow_get {row pr : List Int} {j : Nat} (h1 : j < row.length) (h2 : j < pr.length) : (clRow row pr).getD j 0 = minI (row.getD j 0) (pr.getD j 0 + 1) := by
  unfold clRow
  simp [List.getD_eq_getElem?_getD, List.getElem?_zipWith, h1, h2]
theorem clRow_len {row pr : List Int} {n : Nat} (h1 : row.length = n) (h2 : pr.length = n) : (clRow row pr).length = n := by
  unfold clRow; simp [List.length_zipWith, h1, h2]
theorem minI_le_left (a b : Int) : minI a b ≤ a := by unfold minI; split <;> omega
theorem minI_le_right (a b : Int) : minI a b ≤ b := by unfold minI; split <;> omega
theorem minI_cases (a b : Int) : minI a b = a ∨ minI a b = b := by unfold minI; split <;> simp
/-- What is known of a row of the table. -/
def rowGood (ps : List Per) (k : Nat) (row : List Int) : Prop := row.length = ps.length ∧ ∀ q, q < ps.length → row.getD q 0 = tooF (upd ps k q)
/-- What taking the lesser ones over all parents gives. -/
theorem clFold {up : List (List Int)} {n j : Nat} (hj : j < n) : ∀ (qs : List Int) (row : List Int), row.length = n → (∀ x ∈ qs, (up.getD x.toNat []).length = n) →
    (qs.foldl (fun row x => clRow row (up.getD x.toNat [])) row).length = n ∧
    (qs.foldl (fun row x => clRow row (up.getD x.toNat [])) row).getD j 0 ≤ row.getD j 0 ∧
    (∀ x ∈ qs, (qs.foldl (fun row x => clRow row (up.getD x.toNat [])) row).getD j 0 ≤ (up.getD x.toNat []).getD j 0 + 1) ∧
    ((qs.foldl (fun row x => clRow row (up.getD x.toNat [])) row).getD j 0 = row.getD j 0 ∨ ∃ x ∈ qs, (qs.foldl (fun row x => clRow row (up.getD x.toNat [])) row).getD j 0 = (up.getD x.toNat []).getD j 0 + 1)
  | [], row, hl, _ => ⟨hl, Int.le_refl _, fun _ h => by simp at h, .inl rfl⟩
  | x :: qs, row, hl, hq => by
    have hx := hq x List.mem_cons_self
    obtain ⟨i1, i2, i3, i4⟩ := clFold hj qs (clRow row (up.getD x.toNat [])) (clRow_len hl hx) (fun y hy => hq y (List.mem_cons_of_mem _ hy))
    have e := clRow_get (row := row) (pr := up.getD x.toNat []) (j := j) (by omega) (by omega)
    have l1 := minI_le_left (row.getD j 0) ((up.getD x.toNat []).getD j 0 + 1)
    have l2 := minI_le_right (row.getD j 0) ((up.getD x.toNat []).getD j 0 + 1)
    have l3 := minI_cases (row.getD j 0) ((up.getD x.toNat []).getD j 0 + 1)
    show (qs.foldl _ (clRow row (up.getD x.toNat []))).length = n ∧ (qs.foldl _ (clRow row (up.getD x.toNat []))).getD j 0 ≤ row.getD j 0 ∧
      (∀ y ∈ x :: qs, (qs.foldl _ (clRow row (up.getD x.toNat []))).getD j 0 ≤ (up.getD y.toNat []).getD j 0 + 1) ∧
      ((qs.foldl _ (clRow row (up.getD x.toNat []))).getD j 0 = row.getD j 0 ∨ ∃ y ∈ x :: qs, (qs.foldl _ (clRow row (up.getD x.toNat []))).getD j 0 = (up.getD y.toNat []).getD j 0 + 1)
    refine ⟨i1, by omega, fun y hy => ?_, ?_⟩
    · rcases List.mem_cons.1 hy with rfl | hy
      · omega
      · exact i3 y hy
    · rcases i4 with i4 | ⟨y, hy, i4⟩
      · rcases l3 with l3 | l3
        · left; rw [i4, e, l3]
        · right; exact ⟨x, List.mem_cons_self, by rw [i4, e, l3]⟩
      · exact .inr ⟨y, List.mem_cons_of_mem _ hy, i4⟩
theorem tooF_neg {m : Int} (h : m < 0) : tooF m = 11 := by unfold tooF; rw [ltI_t.2 h]
theorem tooF_pos {m : Int} (h : 0 ≤ m) : tooF m = m := by unfold tooF; rw [ltI_f.2 (by omega)]
theorem upd_least {ps : List Per} (hp : parsIn ps) {p q : Nat} (h : p < ps.length) (hq : q < ps.length) : isLeast ps p q (upd ps p q) := upS_least hp h hq
theorem upd_small {ps : List Per} (hp : parsIn ps) (hs : shallow (depths ps) = true) {p q : Nat} (h : p < ps.length) (hq : q < ps.length) : -1 ≤ upd ps p q ∧ upd ps p q ≤ 10 := by
  have hl := upd_least hp h hq
  refine ⟨hl.range, ?_⟩
  rcases hl.2 with h2 | ⟨h2, h3⟩
  · omega
  · have := h3.small hp hs; omega
theorem clTo_get (ps : List Per) {i k : Nat} (h : i < k) : ∀ n, k ≤ n → (clTo ps n).getD i [] = (clTo ps k).getD i [] := by
  intro n hn
  induction n with
  | zero => omega
  | succ n ih =>
    rcases Nat.lt_or_ge n k with h1 | h1
    · have : k = n + 1 := by omega
      subst this; rfl
    · have e := ih h1
      rw [← e]
      simp only [clTo, List.getD_eq_getElem?_getD]
      rw [List.getElem?_append_left (by rw [clTo_len]; omega)]
theorem clTo_at {ps : List Per} {k : Nat} (h : k < ps.length) : (clTo ps (k + 1)).getD k [] = (clRow0 (clTo ps k) ps.length k (known ps[k])).set k 0 := by
  simp only [clTo, List.getD_eq_getElem?_getD]
  rw [List.getElem?_append_right (by rw [clTo_len]; exact Nat.le_refl _), clTo_len, Nat.sub_self, List.getElem?_eq_getElem h]
  rfl
theorem cl_good {ps : List Per} (hp : parsIn ps) (hs : shallow (depths ps) = true) : ∀ k, k ≤ ps.length → ∀ i, i < k → rowGood ps i ((clTo ps k).getD i []) := by
  intro k
  induction k with
  | zero => intro _ i h; omega
  | succ k ih =>
    intro hk i hi
    rcases Nat.lt_or_ge i k with h1 | h1
    · rw [clTo_get ps h1 (k + 1) (by omega)]; exact ih (by omega) i h1
    · have : i = k := by omega
      subst this
      have hlt : i < ps.length := by omega
      rw [clTo_at hlt]
      have hk := kn_in hp hlt
      have hrow : ∀ x ∈ known ps[i], rowGood ps x.toNat ((clTo ps i).getD x.toNat []) := fun x hx => ih (by omega) _ (hk x hx).2
      have hlen : (clRow0 (clTo ps i) ps.length i (known ps[i])).length = ps.length := by
        have := clFold (up := clTo ps i) (n := ps.length) (j := i) hlt (known ps[i]) (List.replicate ps.length 11) (by simp) (fun x hx => (hrow x hx).1)
        exact this.1
      refine ⟨by rw [List.length_set]; exact hlen, fun q hq => ?_⟩
      rw [getD_set (by rw [hlen]; exact hlt)]
      split
      · rename_i e
        subst e
        rw [(upd_least hp hlt hlt).zero.2 rfl, tooF_pos (Int.le_refl 0)]
      · rename_i hne
        obtain ⟨_, c1, c2, c3⟩ := clFold (up := clTo ps i) (n := ps.length) (j := q) hq (known ps[i]) (List.replicate ps.length 11) (by simp) (fun x hx => (hrow x hx).1)
        have e11 : (List.replicate ps.length (11 : Int)).getD q 0 = 11 := by simp [List.getD_eq_getElem?_getD, List.getElem?_replicate, hq]
        rw [e11] at c1 c3
        change (clRow0 (clTo ps i) ps.length i (known ps[i])).getD q 0 ≤ 11 at c1
        change (clRow0 (clTo ps i) ps.length i (known ps[i])).getD q 0 = 11 ∨ ∃ x ∈ known ps[i], (clRow0 (clTo ps i) ps.length i (known ps[i])).getD q 0 = _ at c3
        have c2' : ∀ x ∈ known ps[i], (clRow0 (clTo ps i) ps.length i (known ps[i])).getD q 0 ≤ tooF (upd ps x.toNat q) + 1 := fun x hx => by
          rw [← (hrow x hx).2 q hq]; exact c2 x hx
        have c3' : (clRow0 (clTo ps i) ps.length i (known ps[i])).getD q 0 = 11 ∨ ∃ x ∈ known ps[i], (clRow0 (clTo ps i) ps.length i (known ps[i])).getD q 0 = tooF (upd ps x.toNat q) + 1 := by
          rcases c3 with c3 | ⟨x, hx, c3⟩
          · exact .inl c3
          · exact .inr ⟨x, hx, by rw [c3, (hrow x hx).2 q hq]⟩
        generalize (clRow0 (clTo ps i) ps.length i (known ps[i])).getD q 0 = v at c1 c2' c3'
        have L := upd_least hp hlt hq
        have Ls := upd_small hp hs hlt hq
        generalize upd ps i q = m at L Ls
        -- a way from a parent
        have way : ∀ x ∈ known ps[i], 0 ≤ upd ps x.toNat q → 0 ≤ m ∧ m ≤ upd ps x.toNat q + 1 := fun x hx h0 => by
          have hx2 := hk x hx
          have Lx := upd_least hp (p := x.toNat) (q := q) (by omega) hq
          rcases Lx.2 with e | ⟨_, hu⟩
          · omega
          · obtain ⟨r, hr, hpa⟩ := (known_pa hp hlt).1 hx
            have e : x.toNat = r := by omega
            rw [e] at hu h0 ⊢
            have := L.1 _ (.step hpa hu)
            omega
        rcases L.2 with hm | ⟨hm, hu⟩
        · rw [tooF_neg (by omega)]
          rcases c3' with e | ⟨x, hx, e⟩
          · exact e
          · rcases Int.lt_or_le (upd ps x.toNat q) 0 with h0 | h0
            · rw [tooF_neg h0] at e; omega
            · have := way x hx h0; omega
        · rw [tooF_pos hm]
          have hm0 : m ≠ 0 := fun e => hne (L.zero.1 e)
          obtain ⟨j, hj⟩ : ∃ j, m.toNat = j + 1 := ⟨m.toNat - 1, by omega⟩
          rw [hj] at hu
          cases hu with
          | step hpa hu =>
            rename_i r
            have hr := isPa_lt hp hpa
            have hx : (r : Int) ∈ known ps[i] := (known_pa hp hlt).2 ⟨r, rfl, hpa⟩
            have Lr := (upd_least hp (p := r) (q := q) (by omega) hq).1 _ hu
            have w := way _ hx (by simpa using Lr.1)
            have b := c2' _ hx
            simp only [Int.toNat_natCast] at w b
            rw [tooF_pos Lr.1] at b
            rcases c3' with e | ⟨x, hx, e⟩
            · omega
            · rcases Int.lt_or_le (upd ps x.toNat q) 0 with h0 | h0
              · rw [tooF_neg h0] at e; omega
              · have := way x hx h0
                rw [tooF_pos h0] at e; omega
theorem clT_good {ps : List Per} (hp : parsIn ps) (hs : shallow (depths ps) = true) {p : Nat} (h : p < ps.length) : rowGood ps p ((clT ps).getD p []) := cl_good hp hs _ (Nat.le_refl _) _ h
theorem clT_get {ps : List Per} (hp : parsIn ps) (hs : shallow (depths ps) = true) {p : Nat} (h : p < ps.length) : (clT ps)[p]? = some ((upS ps p).map tooF) := by
  have hl : p < (clT ps).length := by unfold clT; rw [clTo_len]; exact h
  have g := clT_good hp hs h
  rw [List.getD_eq_getElem?_getD, List.getElem?_eq_getElem hl] at g
  rw [List.getElem?_eq_getElem hl]
  refine congrArg some ?_
  change rowGood ps p (clT ps)[p] at g
  refine List.ext_getElem (by rw [g.1, List.length_map, upS_len]) fun q h1 h2 => ?_
  have hq : q < ps.length := by rw [← g.1]; exact h1
  have := g.2 q hq
  rw [List.getD_eq_getElem?_getD, List.getElem?_eq_getElem h1] at this
  have h3 : q < (upS ps p).length := by rw [upS_len]; exact hq
  rw [List.getElem_map]
  have e : upd ps p q = (upS ps p)[q] := by unfold upd; rw [List.getD_eq_getElem?_getD, List.getElem?_eq_getElem h3]; rfl
  rw [← e]; exact this
end Go.Proofs.Ytgkjafmmekjjlaa


namespace Go.Proofs.Ytgkjafmmekjjlaa
open Go.Lg
set_option maxHeartbeats 800000
set_option linter.unusedVariables false
set_option linter.unusedSimpArgs false

/-! ### Fractions in their lowest terms -/
def rdc : Nat → Nat → Nat × Nat
  | n, 0 => (n, 0)
  | n, e + 1 => if n % 2 = 0 then rdc (n / 2) e else (n, e + 1)
/-- So many parts in lowest terms. -/
def rd (v : Nat) : Nat × Nat := rdc v 30
end Go.Proofs.Ytgkjafmmekjjlaa


namespace Go.Proofs.Ytgkjafmmekjjlaa
open Go.Lg
set_option maxHeartbeats 800000
set_option linter.unusedVariables false
set_option linter.unusedSimpArgs false

/-! ### Kinship in parts -/
def wholeN : Nat := 1073741824
/-- The kinship of two persons, out of rows in which each one stands with those before. -/
def kAt (T : List (List Nat)) (x y : Nat) : Nat := (T.getD (max x y) []).getD (min x y) 0
def kSum (T : List (List Nat)) (b : Nat) (qs : List Int) : Nat := (qs.map fun q => kAt T q.toNat b / 2).sum
def kPar (T : List (List Nat)) (p : Per) : Nat := match eqI p.father (-1) || eqI p.mother (-1) with | true => 0 | false => kAt T p.father.toNat p.mother.toNat
def kRow (T : List (List Nat)) (k : Nat) (p : Per) : List Nat := ((List.range k).map fun b => kSum T b (known p)) ++ [wholeN / 2 + kPar T p / 2]
def kTo (ps : List Per) : Nat → List (List Nat)
  | 0 => []
  | k + 1 => kTo ps k ++ [match ps[k]? with | some p => kRow (kTo ps k) k p | none => []]
/-- What is known of the first k rows: kinships are whole numbers of parts as long as nobody is too deep, and at most a whole. -/
structure KInv (ps : List Per) (k : Nat) : Prop where
  dvd : ∀ a b, a < k → b < k → 2 ^ (29 - (dpt ps a).toNat - (dpt ps b).toNat) ∣ kAt (kTo ps k) a b
  le : ∀ a b, a < k → b < k → kAt (kTo ps k) a b ≤ wholeN
theorem known_two (p : Per) : (known p).length ≤ 2 := by
  unfold known; exact Nat.le_trans (List.length_filter_le _ _) (by simp)
end Go.Proofs.Ytgkjafmmekjjlaa


namespace Go.Proofs.Ytgkjafmmekjjlaa
open Go.Lg
set_option maxHeartbeats 1600000
set_option maxRecDepth 10000
set_option linter.unusedVariables false
set_option linter.unusedSimpArgs false

theorem szIntS_spec (r : List Int) (l : Int) : FSpec env.P 76 [rowSl r, .int .i64 l] (.int .i64 (szN l r.length)) := by
  refine FSpec_of_code env_ok (fn := Try.f76) Try.func76 rfl Try.call76 _ _ ?_
  ((repeat ((conv => whnf); first | refine brT ?_ | refine brF ?_)); conv => whnf)
  intro hm
  rw [List.length_map]
  ((repeat ((conv => whnf); first | refine brT ?_ | refine brF ?_)); conv => whnf)
  (refine ⟨fun h => ?_, fun h => ?_⟩ <;> rw [h])
  · ((repeat ((conv => whnf); first | refine brT ?_ | refine brF ?_)); conv => whnf); exact ⟨rfl, by unfold szN; rw [h], List.nodup_nil⟩
  · ((repeat ((conv => whnf); first | refine brT ?_ | refine brF ?_)); conv => whnf); exact ⟨rfl, by unfold szN; rw [h], List.nodup_nil⟩
theorem toIntS_h (r : List Int) (hb : 8 * r.length ≤ 281474976710656) : HSpec env.P 35 [rowSl r] [] (.hs 0 (r.map intLV).length) [.arr 3 1 (r.map intLV)] := by
  refine HSpec_of_code (E := env.x [] 0) env_ok.x (fn := Try.f35) Try.func35 rfl Try.call35 _ _ _ _ ?_
  ((repeat ((conv => whnf); first | refine brT ?_ | refine brF ?_)); conv => whnf)
  intro hp
  have hp' : r.length ≤ Go.maxLen := by simpa using hp
  ((repeat ((conv => whnf); first | refine brT ?_ | refine brF ?_)); conv => whnf)
  refine ⟨r.length, by simp, by simp, hb, hp', rfl, by decide, ?_⟩
  ((repeat ((conv => whnf); first | refine brT ?_ | refine brF ?_)); conv => whnf)
  refine loop_rule (α := Nat) (fun k => [(4, .int .i64 (k : Int))]) (fun k => [.arr 3 1 (fillLV intLV (intLV 0) r k)]) (fun k => r.length - k) (fun k => k ≤ r.length) 0 (Nat.zero_le _) ?_ ?_
  · refine ⟨?_, ⟨by simp [fillLV, intLV], trivial⟩, rfl, rfl⟩
    ((repeat ((conv => whnf); refine ⟨rfl, ?_⟩)); trivial)
  rintro k hk
  ((repeat ((conv => whnf); first | refine brT ?_ | refine brF ?_)); conv => whnf)
  intro _
  ((repeat ((conv => whnf); first | refine brT ?_ | refine brF ?_)); conv => whnf)
  (refine ⟨fun h1 => ?_, fun h1 => ?_⟩ <;> rw [h1])
  · have hlt : k < r.length := by rw [ltI_t] at h1; simp at h1; omega
    ((repeat ((conv => whnf); first | refine brT ?_ | refine brF ?_)); conv => whnf)
    refine ⟨k, intLV r[k], rfl, by simp [hlt], rfl, ?_⟩
    ((repeat ((conv => whnf); first | refine brT ?_ | refine brF ?_)); conv => whnf)
    refine ⟨(fill_len hk).symm, rfl, k, rfl, by rw [fill_len hk]; exact hlt, ?_⟩
    ((repeat ((conv => whnf); first | refine brT ?_ | refine brF ?_)); conv => whnf)
    refine ⟨(fill_len hk).symm, k, [], intLV 0, rfl, by simp [getP, fill_get hlt], rfl, rfl, rfl, fillLV intLV (intLV 0) r (k + 1), by rw [fill_get hlt]; exact fill_set hlt, ?_⟩
    ((repeat ((conv => whnf); first | refine brT ?_ | refine brF ?_)); conv => whnf)
    refine round_end (k + 1) hlt (by omega) ⟨?_, ⟨rfl, trivial⟩, rfl, rfl⟩
    have e := step_i hlt hp'
    ((repeat ((conv => whnf); first | refine ⟨e, ?_⟩ | refine ⟨rfl, ?_⟩)); trivial)
  · have h4 : k = r.length := by rw [ltI_f] at h1; simp at h1; omega
    subst h4
    ((repeat ((conv => whnf); first | refine brT ?_ | refine brF ?_)); conv => whnf)
    exact ⟨[.hs 0 r.length], by simp [tupOf], rfl, .inl ⟨⟨rfl, trivial⟩, ⟨congrArg (Blk.arr 3 1) fill_all, trivial⟩, rfl, rfl⟩⟩
theorem toIntS_f (r : List Int) (hb : 8 * r.length ≤ 281474976710656) : FSpec env.P 35 [rowSl r] (rowOw r) := by
  refine FSpec_of_code env_ok (fn := Try.f35) Try.func35 rfl Try.call35 _ _ ?_
  ((repeat ((conv => whnf); first | refine brT ?_ | refine brF ?_)); conv => whnf)
  intro hp
  have hp' : r.length ≤ Go.maxLen := by simpa using hp
  ((repeat ((conv => whnf); first | refine brT ?_ | refine brF ?_)); conv => whnf)
  refine ⟨r.length, by simp, by simp, hb, hp', rfl, by decide, ?_⟩
  ((repeat ((conv => whnf); first | refine brT ?_ | refine brF ?_)); conv => whnf)
  refine loop_rule (α := Nat) (fun k => [(4, .int .i64 (k : Int))]) (fun k => [.arr 3 1 (fillLV intLV (intLV 0) r k)]) (fun k => r.length - k) (fun k => k ≤ r.length) 0 (Nat.zero_le _) ?_ ?_
  · refine ⟨?_, ⟨by simp [fillLV, intLV], trivial⟩, rfl, rfl⟩
    ((repeat ((conv => whnf); refine ⟨rfl, ?_⟩)); trivial)
  rintro k hk
  ((repeat ((conv => whnf); first | refine brT ?_ | refine brF ?_)); conv => whnf)
  intro _
  ((repeat ((conv => whnf); first | refine brT ?_ | refine brF ?_)); conv => whnf)
  (refine ⟨fun h1 => ?_, fun h1 => ?_⟩ <;> rw [h1])
  · have hlt : k < r.length := by rw [ltI_t] at h1; simp at h1; omega
    ((repeat ((conv => whnf); first | refine brT ?_ | refine brF ?_)); conv => whnf)
    refine ⟨k, intLV r[k], rfl, by simp [hlt], rfl, ?_⟩
    ((repeat ((conv => whnf); first | refine brT ?_ | refine brF ?_)); conv => whnf)
    refine ⟨(fill_len hk).symm, rfl, k, rfl, by rw [fill_len hk]; exact hlt, ?_⟩
    ((repeat ((conv => whnf); first | refine brT ?_ | refine brF ?_)); conv => whnf)
    refine ⟨(fill_len hk).symm, k, [], intLV 0, rfl, by simp [getP, fill_get hlt], rfl, rfl, rfl, fillLV intLV (intLV 0) r (k + 1), by rw [fill_get hlt]; exact fill_set hlt, ?_⟩
    ((repeat ((conv => whnf); first | refine brT ?_ | refine brF ?_)); conv => whnf)
    refine round_end (k + 1) hlt (by omega) ⟨?_, ⟨rfl, trivial⟩, rfl, rfl⟩
    have e := step_i hlt hp'
    ((repeat ((conv => whnf); first | refine ⟨e, ?_⟩ | refine ⟨rfl, ?_⟩)); trivial)
  · have h4 : k = r.length := by rw [ltI_f] at h1; simp at h1; omega
    subst h4
    ((repeat ((conv => whnf); first | refine brT ?_ | refine brF ?_)); conv => whnf)
    exact ⟨(fill_len (Nat.le_refl _)).symm, rfl, rfl, fill_all, by simp⟩
end Go.Proofs.Ytgkjafmmekjjlaa


namespace Go.Proofs.Ytgkjafmmekjjlaa
open Go.Lg Go.Pm
set_option maxHeartbeats 1600000
set_option maxRecDepth 10000
set_option linter.unusedVariables false
set_option linter.unusedSimpArgs false

/-! ### Places -/
def boLV (b : Bool) : LV := .bool b
theorem getZ (ps : List Int) {k : Nat} (h : k < ps.length) : ps.getD k 0 = ps[k] := getD_lt h
theorem plc0 (d : Int) (ps : List Int) (n : Nat) : (plc d ps n 0).map intLV = List.replicate n (intLV d) := by simp [plc]
theorem fnd0 (ps : List Int) (n : Nat) : (fnd ps n 0).map boLV = List.replicate n (boLV false) := by simp [fnd]
theorem plcI {d : Int} {ps : List Int} {n k : Nat} (hk : k < ps.length) : ((plc d ps n k).map intLV).set ps[k].toNat (intLV (k : Int)) = (plc d ps n (k + 1)).map intLV := by
  rw [plc, getZ ps hk, List.map_set]
theorem fndI {ps : List Int} {n k : Nat} (hk : k < ps.length) : ((fnd ps n k).map boLV).set ps[k].toNat (boLV true) = (fnd ps n (k + 1)).map boLV := by
  rw [fnd, getZ ps hk, List.map_set]
def plcR (ps : List Int) : LV := match permB ps with | true => .tup [.hs 0 ps.length, .bool true] | false => .tup [.nil, .bool false]
def plcH (ps : List Int) : List Blk := match permB ps with | true => [.arr 3 1 ((inv ps).map intLV)] | false => []
theorem placesIn_h (ps : List Int) (hb : 8 * ps.length ≤ 281474976710656) : HSpec env.P 170 [rowSl ps] [] (plcR ps) (plcH ps) := by
  refine HSpec_of_code (E := env.x [] 0) env_ok.x (fn := Try.f170) Try.func170 rfl Try.call170 _ _ _ _ ?_
  ((repeat ((conv => whnf); first | refine brT ?_ | refine brF ?_)); conv => whnf)
  intro hp
  have hp' : ps.length ≤ Go.maxLen := by simpa using hp
  ((repeat ((conv => whnf); first | refine brT ?_ | refine brF ?_)); conv => whnf)
  refine ⟨ps.length, by simp, by simp, hb, hp', rfl, by decide, ?_⟩
  ((repeat ((conv => whnf); first | refine brT ?_ | refine brF ?_)); conv => whnf)
  intro _
  ((repeat ((conv => whnf); first | refine brT ?_ | refine brF ?_)); conv => whnf)
  refine ⟨ps.length, by simp, by simp, by show 1 * ps.length ≤ _; omega, hp', rfl, by decide, ?_⟩
  ((repeat ((conv => whnf); first | refine brT ?_ | refine brF ?_)); conv => whnf)
  intro _
  ((repeat ((conv => whnf); first | refine brT ?_ | refine brF ?_)); conv => whnf)
  refine loop_rule (α := Nat) (fun k => [(16, .int .i64 (k : Int))]) (fun k => [.arr 3 1 ((plc 0 ps ps.length k).map intLV), .arr 4 1 ((fnd ps ps.length k).map boLV)]) (fun k => ps.length - k) (fun k => k ≤ ps.length ∧ okTo ps ps.length k = true) 0 ⟨Nat.zero_le _, rfl⟩ ?_ ?_
  · refine ⟨?_, ⟨by rw [plc0]; rfl, by rw [fnd0]; rfl, trivial⟩, rfl, rfl⟩
    ((repeat ((conv => whnf); refine ⟨rfl, ?_⟩)); trivial)
  rintro k ⟨hk, hok⟩
  have hl1 : ps.length = ((plc 0 ps ps.length k).map intLV).length := by rw [List.length_map, plc_len]
  have hl2 : ps.length = ((fnd ps ps.length k).map boLV).length := by rw [List.length_map, fnd_len]
  ((repeat ((conv => whnf); first | refine brT ?_ | refine brF ?_)); conv => whnf)
  (refine ⟨fun h1 => ?_, fun h1 => ?_⟩ <;> rw [h1])
  · have hlt : k < ps.length := by rw [ltI_t] at h1; simp at h1; omega
    have e := step_i hlt hp'
    ((repeat ((conv => whnf); first | refine brT ?_ | refine brF ?_)); conv => whnf)
    refine ⟨k, intLV ps[k], rfl, by simp [hlt], rfl, ?_⟩
    ((repeat ((conv => whnf); first | refine brT ?_ | refine brF ?_)); conv => whnf)
    have no : ∀ (_ : ¬ (0 ≤ ps.getD k 0 ∧ ps.getD k 0 < ps.length ∧ ps.getD k 0 ∉ ps.take k)), permB ps = false := fun h => okTo_no hlt h
    rw [getZ ps hlt] at no
    (refine ⟨fun h2 => ?_, fun h2 => ?_⟩ <;> rw [h2])
    · have hn := no fun h => by rw [ltI_t] at h2; omega
      ((repeat ((conv => whnf); first | refine brT ?_ | refine brF ?_)); conv => whnf)
      unfold plcR plcH
      rw [hn]
      exact ⟨[.nil, .bool false], rfl, rfl, .inl ⟨⟨rfl, rfl, trivial⟩, trivial, rfl, rfl⟩⟩
    rw [ltI_f] at h2
    ((repeat ((conv => whnf); first | refine brT ?_ | refine brF ?_)); conv => whnf)
    intro _
    ((repeat ((conv => whnf); first | refine brT ?_ | refine brF ?_)); conv => whnf)
    (refine ⟨fun h3 => ?_, fun h3 => ?_⟩ <;> rw [h3])
    · have hn := no fun h => by rw [leI_t] at h3; simp at h3; omega
      ((repeat ((conv => whnf); first | refine brT ?_ | refine brF ?_)); conv => whnf)
      unfold plcR plcH
      rw [hn]
      exact ⟨[.nil, .bool false], rfl, rfl, .inl ⟨⟨rfl, rfl, trivial⟩, trivial, rfl, rfl⟩⟩
    rw [leI_f] at h3
    simp at h3
    have hN : ps[k].toNat < ps.length := by omega
    have hE : ps[k] = (ps[k].toNat : Int) := by omega
    ((repeat ((conv => whnf); first | refine brT ?_ | refine brF ?_)); conv => whnf)
    refine ⟨hl2, rfl, ps[k].toNat, hE, by rw [← hl2]; exact hN, ?_⟩
    ((repeat ((conv => whnf); first | refine brT ?_ | refine brF ?_)); conv => whnf)
    have hg := fnd_get hok hk ps[k].toNat hN
    rw [← hE] at hg
    refine ⟨hl2, by simp, boLV (decide (ps[k] ∈ ps.take k)), by simp only [getP]; rw [List.getElem?_map, hg]; rfl, rfl, ?_⟩
    ((repeat ((conv => whnf); first | refine brT ?_ | refine brF ?_)); conv => whnf)
    (refine ⟨fun h4 => ?_, fun h4 => ?_⟩ <;> rw [h4])
    · have hn := no fun h => h.2.2 (of_decide_eq_true h4)
      ((repeat ((conv => whnf); first | refine brT ?_ | refine brF ?_)); conv => whnf)
      unfold plcR plcH
      rw [hn]
      exact ⟨[.nil, .bool false], rfl, rfl, .inl ⟨⟨rfl, rfl, trivial⟩, trivial, rfl, rfl⟩⟩
    have hok' : okTo ps ps.length (k + 1) = true := okTo_step hok (by rw [getZ ps hlt]; exact h2) (by rw [getZ ps hlt]; exact h3) (by rw [getZ ps hlt]; exact of_decide_eq_false h4)
    ((repeat ((conv => whnf); first | refine brT ?_ | refine brF ?_)); conv => whnf)
    refine ⟨hl1, rfl, ps[k].toNat, hE, by rw [← hl1]; exact hN, ?_⟩
    ((repeat ((conv => whnf); first | refine brT ?_ | refine brF ?_)); conv => whnf)
    obtain ⟨v1, hv1⟩ : ∃ v, ((plc 0 ps ps.length k).map intLV)[ps[k].toNat]? = some (intLV v) := ⟨_, by rw [List.getElem?_map, List.getElem?_eq_getElem (by rw [plc_len]; exact hN)]; rfl⟩
    have hv2 : ((fnd ps ps.length k).map boLV)[ps[k].toNat]? = some (boLV (decide (ps[k] ∈ ps.take k))) := by rw [List.getElem?_map, hg]; rfl
    refine ⟨hl1, ps[k].toNat, [], intLV v1, rfl, by simp only [getP]; rw [hv1], rfl, rfl, rfl, (plc 0 ps ps.length (k + 1)).map intLV, by rw [hv1]; exact plcI hlt, ?_⟩
    ((repeat ((conv => whnf); first | refine brT ?_ | refine brF ?_)); conv => whnf)
    refine ⟨hl2, rfl, ps[k].toNat, hE, by rw [← hl2]; exact hN, ?_⟩
    ((repeat ((conv => whnf); first | refine brT ?_ | refine brF ?_)); conv => whnf)
    refine ⟨hl2, ps[k].toNat, [], boLV (decide (ps[k] ∈ ps.take k)), rfl, by simp only [getP]; rw [hv2], rfl, rfl, rfl, (fnd ps ps.length (k + 1)).map boLV, by rw [hv2]; exact fndI hlt, ?_⟩
    ((repeat ((conv => whnf); first | refine brT ?_ | refine brF ?_)); conv => whnf)
    refine round_end (k + 1) ⟨hlt, hok'⟩ (by omega) ⟨?_, ⟨rfl, rfl, trivial⟩, rfl, rfl⟩
    ((repeat ((conv => whnf); first | refine ⟨e, ?_⟩ | refine ⟨rfl, ?_⟩)); trivial)
  · have h3 : k = ps.length := by rw [ltI_f] at h1; simp at h1; omega
    subst h3
    have hp : permB ps = true := hok
    ((repeat ((conv => whnf); first | refine brT ?_ | refine brF ?_)); conv => whnf)
    unfold plcR plcH
    rw [hp]
    exact ⟨[.hs 0 ps.length, .bool true], rfl, rfl, .inr ⟨[.old 0], ⟨rfl, rfl, rfl, rfl, trivial⟩, ⟨rfl, by rw [plc_all hp]; rfl, trivial⟩, rfl⟩⟩
end Go.Proofs.Ytgkjafmmekjjlaa


namespace Go.Proofs.Ytgkjafmmekjjlaa
open Go.Lg Go.Pm
set_option maxHeartbeats 1600000
set_option maxRecDepth 10000
set_option linter.unusedVariables false
set_option linter.unusedSimpArgs false

theorem map_c (z : LV) : ∀ l : List Int, l.map (fun _ => z) = List.replicate l.length z
  | [] => rfl
  | x :: l => by rw [List.map_cons, map_c z l]; rfl
theorem l1Inverse_h (ps : List Int) (hb : 8 * ps.length ≤ 281474976710656) : HSpec env.P 169 [rowSl ps, .int .i64 (ps.length : Int)] [] (plcR ps) (plcH ps) := by
  refine HSpec_of_code (E := env.x [] 0) env_ok.x (fn := Try.f169) Try.func169 rfl Try.call169 _ _ _ _ ?_
  have hp' : ps.length ≤ Go.maxLen := by unfold Go.maxLen; omega
  ((repeat ((conv => whnf); first | refine brT ?_ | refine brF ?_)); conv => whnf)
  refine ⟨ps.length, by simp, by simp, hb, hp', rfl, by decide, ?_⟩
  ((repeat ((conv => whnf); first | refine brT ?_ | refine brF ?_)); conv => whnf)
  refine ⟨by simp, fun _ => ?_⟩
  ((repeat ((conv => whnf); first | refine brT ?_ | refine brF ?_)); conv => whnf)
  refine loop_rule (α := Nat) (fun k => [(14, .int .i64 (k : Int))]) (fun k => [.arr 3 1 (fillLV (fun _ : Int => intLV (-1)) (intLV 0) ps k)]) (fun k => ps.length - k) (fun k => k ≤ ps.length) 0 (Nat.zero_le _) ?_ ?_
  · refine ⟨?_, ⟨by simp [fillLV, intLV], trivial⟩, rfl, rfl⟩
    ((repeat ((conv => whnf); refine ⟨rfl, ?_⟩)); trivial)
  intro k hk
  ((repeat ((conv => whnf); first | refine brT ?_ | refine brF ?_)); conv => whnf)
  (refine ⟨fun h1 => ?_, fun h1 => ?_⟩ <;> rw [h1])
  · have hlt : k < ps.length := by rw [ltI_t] at h1; simp at h1; omega
    have e := step_i hlt hp'
    ((repeat ((conv => whnf); first | refine brT ?_ | refine brF ?_)); conv => whnf)
    refine ⟨(fill_len hk).symm, rfl, k, rfl, by rw [fill_len hk]; exact hlt, ?_⟩
    ((repeat ((conv => whnf); first | refine brT ?_ | refine brF ?_)); conv => whnf)
    refine ⟨(fill_len hk).symm, k, [], intLV 0, rfl, by simp [getP, fill_get hlt], rfl, rfl, rfl, fillLV (fun _ : Int => intLV (-1)) (intLV 0) ps (k + 1), by rw [fill_get hlt]; exact fill_set (lv := fun _ : Int => intLV (-1)) hlt, ?_⟩
    ((repeat ((conv => whnf); first | refine brT ?_ | refine brF ?_)); conv => whnf)
    refine round_end (k + 1) hlt (by omega) ⟨?_, ⟨rfl, trivial⟩, rfl, rfl⟩
    ((repeat ((conv => whnf); first | refine ⟨e, ?_⟩ | refine ⟨rfl, ?_⟩)); trivial)
  have hk' : k = ps.length := by rw [ltI_f] at h1; simp at h1; omega
  subst hk'
  have e0 : fillLV (fun _ : Int => intLV (-1)) (intLV 0) ps ps.length = (plc (-1) ps ps.length 0).map intLV := by rw [fill_all, plc0, map_c]
  rw [e0]
  ((repeat ((conv => whnf); first | refine brT ?_ | refine brF ?_)); conv => whnf)
  intro _
  ((repeat ((conv => whnf); first | refine brT ?_ | refine brF ?_)); conv => whnf)
  rw [show notB (eqI ((ps.map intLV).length : Int) (ps.length : Int)) = false by rw [List.length_map, eqI_refl]; simp [notB]]
  ((repeat ((conv => whnf); first | refine brT ?_ | refine brF ?_)); conv => whnf)
  intro _
  ((repeat ((conv => whnf); first | refine brT ?_ | refine brF ?_)); conv => whnf)
  refine loop_rule (α := Nat) (fun k => [(27, .int .i64 (k : Int))]) (fun k => [.arr 3 1 ((plc (-1) ps ps.length k).map intLV)]) (fun k => ps.length - k) (fun k => k ≤ ps.length ∧ okTo ps ps.length k = true) 0 ⟨Nat.zero_le _, rfl⟩ ?_ ?_
  · refine ⟨?_, ⟨rfl, trivial⟩, rfl, rfl⟩
    ((repeat ((conv => whnf); refine ⟨rfl, ?_⟩)); trivial)
  rintro k ⟨hk, hok⟩
  have hl1 : ps.length = ((plc (-1) ps ps.length k).map intLV).length := by rw [List.length_map, plc_len]
  ((repeat ((conv => whnf); first | refine brT ?_ | refine brF ?_)); conv => whnf)
  (refine ⟨fun h1 => ?_, fun h1 => ?_⟩ <;> rw [h1])
  · have hlt : k < ps.length := by rw [ltI_t] at h1; simp at h1; omega
    have e := step_i hlt hp'
    ((repeat ((conv => whnf); first | refine brT ?_ | refine brF ?_)); conv => whnf)
    refine ⟨k, intLV ps[k], rfl, by simp [hlt], rfl, ?_⟩
    ((repeat ((conv => whnf); first | refine brT ?_ | refine brF ?_)); conv => whnf)
    have no : ∀ (_ : ¬ (0 ≤ ps.getD k 0 ∧ ps.getD k 0 < ps.length ∧ ps.getD k 0 ∉ ps.take k)), permB ps = false := fun h => okTo_no hlt h
    rw [getZ ps hlt] at no
    (refine ⟨fun h2 => ?_, fun h2 => ?_⟩ <;> rw [h2])
    · have hn := no fun h => by rw [ltI_t] at h2; omega
      ((repeat ((conv => whnf); first | refine brT ?_ | refine brF ?_)); conv => whnf)
      unfold plcR plcH
      rw [hn]
      exact ⟨[.nil, .bool false], rfl, rfl, .inl ⟨⟨rfl, rfl, trivial⟩, trivial, rfl, rfl⟩⟩
    rw [ltI_f] at h2
    ((repeat ((conv => whnf); first | refine brT ?_ | refine brF ?_)); conv => whnf)
    (refine ⟨fun h3 => ?_, fun h3 => ?_⟩ <;> rw [h3])
    · have hn := no fun h => by rw [leI_t] at h3; omega
      ((repeat ((conv => whnf); first | refine brT ?_ | refine brF ?_)); conv => whnf)
      unfold plcR plcH
      rw [hn]
      exact ⟨[.nil, .bool false], rfl, rfl, .inl ⟨⟨rfl, rfl, trivial⟩, trivial, rfl, rfl⟩⟩
    rw [leI_f] at h3
    have hN : ps[k].toNat < ps.length := by omega
    have hE : ps[k] = (ps[k].toNat : Int) := by omega
    ((repeat ((conv => whnf); first | refine brT ?_ | refine brF ?_)); conv => whnf)
    refine ⟨hl1, rfl, ps[k].toNat, hE, by rw [← hl1]; exact hN, ?_⟩
    ((repeat ((conv => whnf); first | refine brT ?_ | refine brF ?_)); conv => whnf)
    obtain ⟨v, hv, hs⟩ := plc_sign hok hk hN
    rw [← hE] at hs
    have hv1 : ((plc (-1) ps ps.length k).map intLV)[ps[k].toNat]? = some (intLV v) := by rw [List.getElem?_map, hv]; rfl
    refine ⟨hl1, by simp, intLV v, by simp only [getP]; rw [hv1], rfl, ?_⟩
    ((repeat ((conv => whnf); first | refine brT ?_ | refine brF ?_)); conv => whnf)
    (refine ⟨fun h4 => ?_, fun h4 => ?_⟩ <;> rw [h4])
    · have hn := no fun h => h.2.2 (hs.1 (leI_t.1 h4))
      ((repeat ((conv => whnf); first | refine brT ?_ | refine brF ?_)); conv => whnf)
      unfold plcR plcH
      rw [hn]
      exact ⟨[.nil, .bool false], rfl, rfl, .inl ⟨⟨rfl, rfl, trivial⟩, trivial, rfl, rfl⟩⟩
    have hok' : okTo ps ps.length (k + 1) = true := okTo_step hok (by rw [getZ ps hlt]; exact h2) (by rw [getZ ps hlt]; exact h3) (by rw [getZ ps hlt]; intro hm; have := hs.2 hm; rw [leI_f] at h4; omega)
    ((repeat ((conv => whnf); first | refine brT ?_ | refine brF ?_)); conv => whnf)
    refine ⟨hl1, rfl, ps[k].toNat, hE, by rw [← hl1]; exact hN, ?_⟩
    ((repeat ((conv => whnf); first | refine brT ?_ | refine brF ?_)); conv => whnf)
    refine ⟨hl1, ps[k].toNat, [], intLV v, rfl, by simp only [getP]; rw [hv1], rfl, rfl, rfl, (plc (-1) ps ps.length (k + 1)).map intLV, by rw [hv1]; exact plcI hlt, ?_⟩
    ((repeat ((conv => whnf); first | refine brT ?_ | refine brF ?_)); conv => whnf)
    refine round_end (k + 1) ⟨hlt, hok'⟩ (by omega) ⟨?_, ⟨rfl, trivial⟩, rfl, rfl⟩
    ((repeat ((conv => whnf); first | refine ⟨e, ?_⟩ | refine ⟨rfl, ?_⟩)); trivial)
  · have h3 : k = ps.length := by rw [ltI_f] at h1; simp at h1; omega
    subst h3
    have hp : permB ps = true := hok
    ((repeat ((conv => whnf); first | refine brT ?_ | refine brF ?_)); conv => whnf)
    unfold plcR plcH
    rw [hp]
    exact ⟨[.hs 0 ps.length, .bool true], rfl, rfl, .inr ⟨[.old 0], ⟨rfl, rfl, rfl, rfl, trivial⟩, ⟨rfl, rfl, trivial⟩, rfl⟩⟩
theorem isPerm_impl (ps : List Int) (hb : 8 * ps.length ≤ 281474976710656) : FSpec env.P 145 [rowSl ps] (.bool (permB ps)) := by
  refine FSpec_of_code (E := env.x [170] 0) env_ok.x (fn := Try.f145) Try.func145 rfl Try.call145 _ _ ?_
  have h := placesIn_h ps hb
  unfold plcR plcH at h
  cases hp : permB ps <;> rw [hp] at h <;> ((repeat ((conv => whnf); first | refine brT ?_ | refine brF ?_)); conv => whnf)
  all_goals
    refine ⟨[], _, _, _, _, h, rfl, rfl, rfl, trivial, ?_⟩
    ((repeat ((conv => whnf); first | refine brT ?_ | refine brF ?_)); conv => whnf)
    exact fin rfl
theorem isPerm_spec (ps : List Int) (hb : 8 * ps.length ≤ 281474976710656) : FSpec env.P 144 [rowSl ps] (.bool (permB ps)) := by
  refine FSpec_of_code (E := env.x [169] 0) env_ok.x (fn := Try.f144) Try.func144 rfl Try.call144 _ _ ?_
  have h := l1Inverse_h ps hb
  unfold plcR plcH at h
  cases hp : permB ps <;> rw [hp] at h <;> ((repeat ((conv => whnf); first | refine brT ?_ | refine brF ?_)); conv => whnf)
  all_goals
    intro _
    rw [List.length_map]
    ((repeat ((conv => whnf); first | refine brT ?_ | refine brF ?_)); conv => whnf)
    refine ⟨[], _, _, _, _, h, rfl, rfl, rfl, trivial, ?_⟩
    ((repeat ((conv => whnf); first | refine brT ?_ | refine brF ?_)); conv => whnf)
    exact fin rfl
theorem ints_f {f : FuncId} {args : List LV} {xs : List Int} (h : HSpec env.P f args [] (.hs 0 (xs.map intLV).length) [.arr 3 1 (xs.map intLV)]) : FSpec env.P f args (rowOw xs) :=
  FSpec_of_HSpec h (by unfold rowOw; simp [exW])
end Go.Proofs.Ytgkjafmmekjjlaa


namespace Go.Proofs.Ytgkjafmmekjjlaa
open Go.Lg Go.Pm
set_option maxHeartbeats 1600000
set_option maxRecDepth 10000
set_option linter.unusedVariables false
set_option linter.unusedSimpArgs false

/-! ### Composition -/
/-- The composition of lists that are permutations of as many numbers; nothing of others. -/
def cmpB (ps qs : List Int) : Bool := eqI (ps.length : Int) (qs.length : Int) && (permB ps && permB qs)
end Go.Proofs.Ytgkjafmmekjjlaa

namespace Go.Proofs.Ytgkjafmmekjjlaa
open Go.Lg Go.Pm
set_option maxHeartbeats 3200000
set_option maxRecDepth 10000
set_option linter.unusedVariables false
set_option linter.unusedSimpArgs false

end Go.Proofs.Ytgkjafmmekjjlaa

namespace Go.Proofs.Ytgkjafmmekjjlaa
open Go.Lg Go.Pm
set_option maxHeartbeats 3200000
set_option maxRecDepth 10000
set_option linter.unusedVariables false
set_option linter.unusedSimpArgs false

/-! ### Classes -/
def clsLV (w c : List Int) : LV := .st [rowSl w, rowSl c]
def clsHS (n m : Nat) : LV := .st [.hs 0 n, .hs 1 m]
def clsH (w c : List Int) : List Blk := [.arr 3 1 (w.map intLV), .arr 3 1 (c.map intLV)]
theorem toClasses_h (w c : List Int) (hw : 8 * w.length ≤ 281474976710656) (hc : 8 * c.length ≤ 281474976710656) : HSpec env.P 34 [clsLV w c] [] (clsHS (w.map intLV).length (c.map intLV).length) (clsH w c) := by
  refine HSpec_of_code (E := env.x [35] 0) env_ok.x (fn := Try.f34) Try.func34 rfl Try.call34 _ _ _ _ ?_
  ((repeat ((conv => whnf); first | refine brT ?_ | refine brF ?_)); conv => whnf)
  refine ⟨[], _, _, _, _, toIntS_h w hw, rfl, rfl, rfl, trivial, ?_⟩
  ((repeat ((conv => whnf); first | refine brT ?_ | refine brF ?_)); conv => whnf)
  refine ⟨[], _, _, _, _, toIntS_h c hc, rfl, rfl, rfl, trivial, ?_⟩
  ((repeat ((conv => whnf); first | refine brT ?_ | refine brF ?_)); conv => whnf)
  refine ⟨[clsHS (w.map intLV).length (c.map intLV).length], rfl, rfl, .inr ⟨[.old 3, .old 4], ?_, ?_, rfl⟩⟩
  · ((repeat ((conv => whnf); refine ⟨rfl, rfl, ?_⟩)); trivial)
  · exact ⟨rfl, rfl, rfl, rfl, trivial⟩
theorem toClasses_f (w c : List Int) (hw : 8 * w.length ≤ 281474976710656) (hc : 8 * c.length ≤ 281474976710656) : FSpec env.P 34 [clsLV w c] (clsLV w c) := by
  refine FSpec_of_code env_ok (fn := Try.f34) Try.func34 rfl Try.call34 _ _ ?_
  ((repeat ((conv => whnf); first | refine brT ?_ | refine brF ?_)); conv => whnf)
  refine ⟨_, toIntS_f w hw, ?_⟩
  ((repeat ((conv => whnf); first | refine brT ?_ | refine brF ?_)); conv => whnf)
  refine ⟨_, toIntS_f c hc, ?_⟩
  ((repeat ((conv => whnf); first | refine brT ?_ | refine brF ?_)); conv => whnf)
  refine ⟨_, rfl, rfl, rfl, ?_⟩
  exact ⟨rfl, by simp [exsW]⟩
def eqCls (a b c d : List Int) : Bool := eqList eqI a c && eqList eqI b d
theorem eqCls_refl (a b : List Int) : eqCls a b a b = true := by simp [eqCls, eqIntS_refl]
theorem eqClasses_spec (a b c d : List Int) : FSpec env.P 37 [clsLV a b, clsLV c d] (.bool (eqCls a b c d)) := by
  refine FSpec_of_code env_ok (fn := Try.f37) Try.func37 rfl Try.call37 _ _ ?_
  ((repeat' (((repeat ((conv => whnf); first | refine brT ?_ | refine brF ?_)); conv => whnf); first | (refine And.intro ?_ ?_ <;> (intro h; rw [h]; revert h; intro _)) | (refine Exists.intro true (And.intro (a := drawB _ _ = true) (by kernel_rfl) ?_)) | (refine Exists.intro _ (And.intro (eqIntS_spec a c) ?_)) | (refine Exists.intro _ (And.intro (eqIntS_spec b d) ?_)))); all_goals ((repeat ((conv => whnf); first | refine brT ?_ | refine brF ?_)); conv => whnf))
  all_goals (refine fin ?_; simp_all [eqCls, notB])
def szC (l : Int) (n m : Nat) : Int := match ltI (szN l n) 0 with | true => -1 | false => szN (szN l n) m
theorem szM_neg {l : Int} {n : Nat} (h : 0 ≤ szN l n → False) : szN l n = -1 := by
  unfold szN at h ⊢
  cases h2 : ltI (IntKind.i64.wrap (l - (n : Int))) 0 <;> rw [h2] at h <;> simp only at h ⊢
  rw [ltI_f] at h2; exact (h h2).elim
theorem szC_ok {l : Int} {n m : Nat} (h0 : 0 ≤ l) (h1 : l ≤ 1048576) (hn : n ≤ Go.maxLen) (hm : m ≤ Go.maxLen) (h : 0 ≤ szC l n m) : szC l n m = l - n - m ∧ (n : Int) + m ≤ l := by
  unfold szC at h ⊢
  cases h2 : ltI (szN l n) 0 <;> rw [h2] at h <;> simp only at h ⊢
  · rw [ltI_f] at h2
    obtain ⟨e1, e2⟩ := szN_ok h0 h1 hn h2
    rw [e1] at h ⊢
    obtain ⟨e3, e4⟩ := szN_ok (by omega) (by omega) hm h
    omega
  · omega
theorem szClasses_spec (w c : List Int) (l : Int) : FSpec env.P 32 [clsLV w c, .int .i64 l] (.int .i64 (szC l w.length c.length)) := by
  refine FSpec_of_code env_ok (fn := Try.f32) Try.func32 rfl Try.call32 _ _ ?_
  ((repeat ((conv => whnf); first | refine brT ?_ | refine brF ?_)); conv => whnf)
  refine ⟨_, szIntS_spec w l, ?_⟩
  ((repeat ((conv => whnf); first | refine brT ?_ | refine brF ?_)); conv => whnf)
  (refine ⟨fun h => ?_, fun h => ?_⟩ <;> rw [h])
  · ((repeat ((conv => whnf); first | refine brT ?_ | refine brF ?_)); conv => whnf); exact ⟨rfl, by unfold szC; rw [h], List.nodup_nil⟩
  ((repeat ((conv => whnf); first | refine brT ?_ | refine brF ?_)); conv => whnf)
  refine ⟨_, szIntS_spec c (szN l w.length), ?_⟩
  ((repeat ((conv => whnf); first | refine brT ?_ | refine brF ?_)); conv => whnf)
  (refine ⟨fun h2 => ?_, fun h2 => ?_⟩ <;> rw [h2])
  · have e : szN (szN l w.length) c.length = -1 := szM_neg fun h3 => by rw [ltI_t] at h2; omega
    ((repeat ((conv => whnf); first | refine brT ?_ | refine brF ?_)); conv => whnf); exact ⟨rfl, by unfold szC; rw [h]; exact e.symm, List.nodup_nil⟩
  · ((repeat ((conv => whnf); first | refine brT ?_ | refine brF ?_)); conv => whnf); exact ⟨rfl, by unfold szC; rw [h], List.nodup_nil⟩
theorem markClasses_spec (w c : List Int) (n m : Nat) (hn : n = (w.map intLV).length) (hm : m = (c.map intLV).length) (k : Int) (h0 : 0 ≤ k) (h1 : k + w.length + c.length ≤ 4611686018427387904) :
    HSpec env.P 38 [clsHS n m, .int .i64 k] (clsH w c) (.int .i64 (k + w.length + c.length)) [.arr 3 1 ((marks k w.length).map intLV), .arr 3 1 ((marks (k + w.length) c.length).map intLV)] := by
  unfold clsH
  refine HSpec_of_code (E := env.x [19] 2) env_ok.x (fn := Try.f38) Try.func38 rfl Try.call38 _ _ _ _ ?_
  ((repeat ((conv => whnf); first | refine brT ?_ | refine brF ?_)); conv => whnf)
  refine ⟨[0], _, _, _, _, markIntS_spec w n hn k h0 (by omega), rfl, rfl, rfl, trivial, ?_⟩
  ((repeat ((conv => whnf); first | refine brT ?_ | refine brF ?_)); conv => whnf)
  refine ⟨[1], _, _, _, _, markIntS_spec c m hm (k + w.length) (by omega) (by omega), rfl, rfl, rfl, trivial, ?_⟩
  ((repeat ((conv => whnf); first | refine brT ?_ | refine brF ?_)); conv => whnf)
  exact ⟨[.int .i64 (k + w.length + c.length)], rfl, rfl, .inl ⟨⟨rfl, trivial⟩, ⟨rfl, rfl, trivial⟩, rfl, rfl⟩⟩
def clsB (w c : List Int) : Bool := leI 1 (w.length : Int) && (leI (w.length : Int) 8 && (eqI (c.length : Int) (w.length : Int) && (permB w && permB c)))
theorem clsB_at {w c : List Int} (h : clsB w c = true) : 1 ≤ w.length ∧ w.length ≤ 8 ∧ c.length = w.length ∧ permB w = true ∧ permB c = true := by
  unfold clsB at h
  simp only [Bool.and_eq_true, leI_t, eqI_t] at h
  obtain ⟨h1, h2, h3, h4, h5⟩ := h
  exact ⟨by omega, by omega, by omega, h4, h5⟩
theorem isClasses_impl (w c : List Int) (hw : w.length ≤ 1048576) (hc : c.length ≤ 1048576) : FSpec env.P 120 [clsLV w c] (.bool (clsB w c)) := by
  refine FSpec_of_code env_ok (fn := Try.f120) Try.func120 rfl Try.call120 _ _ ?_
  have hl : ((w.map intLV).length : Int) = (w.length : Int) := by simp
  have hl2 : ((c.map intLV).length : Int) = (c.length : Int) := by simp
  unfold clsB
  ((repeat ((conv => whnf); first | refine brT ?_ | refine brF ?_)); conv => whnf)
  intro _
  ((repeat ((conv => whnf); first | refine brT ?_ | refine brF ?_)); conv => whnf)
  rw [hl]
  (refine ⟨fun h1 => ?_, fun h1 => ?_⟩ <;> rw [h1])
  rotate_left
  · ((repeat ((conv => whnf); first | refine brT ?_ | refine brF ?_)); conv => whnf); exact fin rfl
  ((repeat ((conv => whnf); first | refine brT ?_ | refine brF ?_)); conv => whnf)
  (refine ⟨fun h2 => ?_, fun h2 => ?_⟩ <;> rw [h2])
  rotate_left
  · ((repeat ((conv => whnf); first | refine brT ?_ | refine brF ?_)); conv => whnf); exact fin rfl
  ((repeat ((conv => whnf); first | refine brT ?_ | refine brF ?_)); conv => whnf)
  intro _
  ((repeat ((conv => whnf); first | refine brT ?_ | refine brF ?_)); conv => whnf)
  rw [hl2]
  (refine ⟨fun h3 => ?_, fun h3 => ?_⟩ <;> rw [h3])
  rotate_left
  · ((repeat ((conv => whnf); first | refine brT ?_ | refine brF ?_)); conv => whnf); exact fin rfl
  ((repeat ((conv => whnf); first | refine brT ?_ | refine brF ?_)); conv => whnf)
  refine ⟨_, isPerm_impl w (by omega), ?_⟩
  ((repeat ((conv => whnf); first | refine brT ?_ | refine brF ?_)); conv => whnf)
  (refine ⟨fun h4 => ?_, fun h4 => ?_⟩ <;> rw [h4])
  rotate_left
  · ((repeat ((conv => whnf); first | refine brT ?_ | refine brF ?_)); conv => whnf); exact fin rfl
  ((repeat ((conv => whnf); first | refine brT ?_ | refine brF ?_)); conv => whnf)
  refine ⟨_, isPerm_impl c (by omega), ?_⟩
  ((repeat ((conv => whnf); first | refine brT ?_ | refine brF ?_)); conv => whnf)
  exact fin rfl
theorem isClasses_spec (w c : List Int) (hw : w.length ≤ 1048576) (hc : c.length ≤ 1048576) : FSpec env.P 119 [clsLV w c] (.bool (clsB w c)) := by
  refine FSpec_of_code env_ok (fn := Try.f119) Try.func119 rfl Try.call119 _ _ ?_
  have hl : ((w.map intLV).length : Int) = (w.length : Int) := by simp
  have hl2 : ((c.map intLV).length : Int) = (c.length : Int) := by simp
  have e0 : clsB w c = ((leI 1 (w.length : Int) && leI (w.length : Int) 8) && (eqI (w.length : Int) (c.length : Int) && (permB w && permB c))) := by
    unfold clsB
    rw [show eqI (w.length : Int) (c.length : Int) = eqI (c.length : Int) (w.length : Int) by simp only [eqI_d]; exact decide_eq_decide.2 eq_comm, Bool.and_assoc]
  rw [e0]
  ((repeat ((conv => whnf); first | refine brT ?_ | refine brF ?_)); conv => whnf)
  intro _
  ((repeat ((conv => whnf); first | refine brT ?_ | refine brF ?_)); conv => whnf)
  refine ⟨_, l1In_spec _ _ _, ?_⟩
  ((repeat ((conv => whnf); first | refine brT ?_ | refine brF ?_)); conv => whnf)
  rw [hl]
  (refine ⟨fun h1 => ?_, fun h1 => ?_⟩ <;> rw [h1])
  rotate_left
  · ((repeat ((conv => whnf); first | refine brT ?_ | refine brF ?_)); conv => whnf); refine fin ?_; simp
  ((repeat ((conv => whnf); first | refine brT ?_ | refine brF ?_)); conv => whnf)
  intro _
  ((repeat ((conv => whnf); first | refine brT ?_ | refine brF ?_)); conv => whnf)
  intro _
  ((repeat ((conv => whnf); first | refine brT ?_ | refine brF ?_)); conv => whnf)
  rw [hl, hl2]
  (refine ⟨fun h3 => ?_, fun h3 => ?_⟩ <;> rw [h3])
  rotate_left
  · ((repeat ((conv => whnf); first | refine brT ?_ | refine brF ?_)); conv => whnf); refine fin ?_; simp
  ((repeat ((conv => whnf); first | refine brT ?_ | refine brF ?_)); conv => whnf)
  refine ⟨_, isPerm_spec w (by omega), ?_⟩
  ((repeat ((conv => whnf); first | refine brT ?_ | refine brF ?_)); conv => whnf)
  (refine ⟨fun h4 => ?_, fun h4 => ?_⟩ <;> rw [h4])
  rotate_left
  · ((repeat ((conv => whnf); first | refine brT ?_ | refine brF ?_)); conv => whnf); refine fin ?_; simp
  ((repeat ((conv => whnf); first | refine brT ?_ | refine brF ?_)); conv => whnf)
  refine ⟨_, isPerm_spec c (by omega), ?_⟩
  ((repeat ((conv => whnf); first | refine brT ?_ | refine brF ?_)); conv => whnf)
  refine fin ?_; simp
end Go.Proofs.Ytgkjafmmekjjlaa


namespace Go.Proofs.Ytgkjafmmekjjlaa
open Go.Lg Go.Pm
set_option maxHeartbeats 3200000
set_option maxRecDepth 10000
set_option linter.unusedVariables false
set_option linter.unusedSimpArgs false

/-! ### No class marries itself -/
end Go.Proofs.Ytgkjafmmekjjlaa


namespace Go.Proofs.Ytgkjafmmekjjlaa
open Go.Lg Go.Pm
set_option maxHeartbeats 6400000
set_option maxRecDepth 10000
set_option linter.unusedVariables false
set_option linter.unusedSimpArgs false

def shCls : Sh := .st [shInts, shInts]
theorem cls_of_sh {x : LV} (h : hasSh shCls x) : ∃ w c : List Int, x = clsLV w c ∧ w.length ≤ Go.maxLen ∧ c.length ≤ Go.maxLen := by
  unfold hasSh at h
  obtain ⟨xs, rfl, h⟩ := h
  match xs, h with
  | [a, b], h =>
    simp only [hasShs] at h
    obtain ⟨r1, rfl, h1⟩ := row_of_sh h.1
    obtain ⟨r2, rfl, h2⟩ := row_of_sh h.2.1
    exact ⟨r1, r2, rfl, h1, h2⟩
  | [], h => simp [hasShs] at h
  | [_], h => simp [hasShs] at h
  | _ :: _ :: _ :: _, h => simp [hasShs] at h
end Go.Proofs.Ytgkjafmmekjjlaa


namespace Go.Proofs.Ytgkjafmmekjjlaa
open Go.Lg
set_option maxHeartbeats 1600000
set_option maxRecDepth 10000
set_option linter.unusedVariables false
set_option linter.unusedSimpArgs false

/-! A rule: its name, its sex and place, the steps that it replaces and by which. -/
structure Rul where
  name : ByteArray
  sex : Int
  place : Int
  fr : List Pr
  to : List Pr
def Rul.lv (r : Rul) : LV := .st [.str r.name, .int .i64 r.sex, .int .i64 r.place, .sl (r.fr.map Pr.lv), .sl (r.to.map Pr.lv)]
def Rul.own (r : Rul) (e : Nat) : LV := .st [.str r.name, .int .i64 r.sex, .int .i64 r.place, .own e 2 (r.fr.map Pr.lv), .own e 2 (r.to.map Pr.lv)]
def Rul.eq (r s : Rul) : Bool := eqS r.name s.name && (eqI r.sex s.sex && (eqI r.place s.place && (eqList Pr.eq r.fr s.fr && eqList Pr.eq r.to s.to)))
theorem Rul.eq_refl (r : Rul) : r.eq r = true := by simp [Rul.eq, eqS_refl, eqI_refl, eqPairS_refl]

/-! Comparisons of steps. -/
end Go.Proofs.Ytgkjafmmekjjlaa


namespace Go.Proofs.Ytgkjafmmekjjlaa
open Go.Lg
set_option maxHeartbeats 1600000
set_option maxRecDepth 10000
set_option linter.unusedVariables false
set_option linter.unusedSimpArgs false

theorem Weak.idn {n0 : Nat} {ts : List LV} {H : List Blk} (h1 : wk ts ts) (h2 : wkH n0 H H) (h3 : (scs (below H.length) ts && H.all (scB (below H.length))) = true) : Weak n0 ts H ts H := by
  simp only [Bool.and_eq_true] at h3
  exact .inl ⟨h1, h2, h3.1, h3.2⟩

end Go.Proofs.Ytgkjafmmekjjlaa

namespace Go.Proofs.Ytgkjafmmekjjlaa
open Go.Lg Go.Pm
set_option maxHeartbeats 6400000
set_option maxRecDepth 10000
set_option linter.unusedVariables false
set_option linter.unusedSimpArgs false

/-! ### Types as permutations -/
theorem idx {q : List Int} {y : Int} (e1 : 0 ≤ y) (e2 : y.toNat < q.length) : y = ((y.toNat : Nat) : Int) ∧ (q.map intLV)[y.toNat]? = some (intLV (q.getD y.toNat 0)) :=
  ⟨by omega, by rw [List.getElem?_map, List.getElem?_eq_getElem e2, getD_lt e2]; rfl⟩
end Go.Proofs.Ytgkjafmmekjjlaa

