/- The contracts of IsName, in the model and in the program: each returns whether the string has 1 to 12 bytes, all from a to z. -/
import Derived.Test.YtciegilcimbmoaaRows
import Derived.WalkKit
import Derived.ProofKit
import Derived.Lib.Hide
namespace Go.Proofs.Ytciegilcimbmoaa.fnExactIsName
open Go.RowKit
set_option linter.unusedVariables false
set_option linter.unusedSimpArgs false

def lower (c : UInt8) : Bool := !(decide ((c.toNat : Int) < 97) || decide ((122 : Int) < (c.toNat : Int)))
def allLow (s : ByteArray) : Bool := s.data.toList.all lower
def okName (s : ByteArray) : Bool := allLow s && (decide (1 ≤ s.size) && decide (s.size ≤ 12))

theorem l1In_any (x a b : Int) (w : World) :
    Calls Try.prog 68 #[.int .i64 x, .int .i64 a, .int .i64 b] w fun e w' => e = .returned (.bool (decide (a ≤ x) && decide (x ≤ b))) ∧ w = w' := by
  by_cases h1 : a ≤ x
  · go_enter Try.func68, Try.ntmps68
    go_wp2
    go_ret
    exact ⟨by simp [h1], rfl⟩
  · have h1' : decide (a ≤ x) = false := by simpa using h1
    go_enter Try.func68, Try.ntmps68
    go_wp2
    go_ret
    exact ⟨by simp [h1], rfl⟩


def LowTo (s : ByteArray) (k : Nat) : Prop := ∀ j (h : j < s.size), j < k → lower s[j] = true
theorem LowTo.zero (s : ByteArray) : LowTo s 0 := fun _ _ h => absurd h (Nat.not_lt_zero _)
theorem LowTo.succ {s : ByteArray} {k : Nat} (h : LowTo s k) (hk : k < s.size) (hl : lower s[k] = true) : LowTo s (k + 1) := by
  intro j hj hjk
  by_cases e : j = k
  · subst e; exact hl
  · exact h j hj (by omega)
theorem LowTo.all {s : ByteArray} {k : Nat} (h : LowTo s k) (hk : s.size ≤ k) : allLow s = true := by
  unfold allLow
  rw [List.all_eq_true]
  intro c hc
  obtain ⟨j, hj, rfl⟩ := List.mem_iff_getElem.1 hc
  have hj' : j < s.size := by simpa using hj
  exact h j hj' (by omega)
theorem not_all {s : ByteArray} {k : Nat} (hk : k < s.size) (hl : lower s[k] = false) : allLow s = false := by
  unfold allLow
  rw [List.all_eq_false]
  exact ⟨s[k], by exact Array.getElem_mem_toList _, by simp [hl]⟩
theorem okName_no {s : ByteArray} {k : Nat} (hk : k < s.size) (hl : lower s[k] = false) : okName s = false := by
  unfold okName; rw [not_all hk hl]; rfl

set_option maxHeartbeats 400000 in
theorem spec_any (s : ByteArray) (w : World) (hs : s.size ≤ maxLen) :
    Calls Try.prog 20 #[.string s] w fun e w' => e = .returned (.bool (okName s)) ∧ w = w' := by
  unfold maxLen at hs
  go_enter Try.func20, Try.ntmps20
  go_wp2
  go_loop [3] (fun i => ∃ k : Nat, k ≤ s.size ∧ i = .int .i64 k ∧ LowTo s k) (fun i => s.size - (intOf i).toNat)
  case atStart => exact ⟨0, Nat.zero_le _, rfl, LowTo.zero s⟩
  case round =>
    obtain ⟨k, hk, rfl, hlow⟩ := hrel
    by_cases hlt : k < s.size
    · by_cases h1 : ((s[k].toNat : Int) < 97)
      · have hno := okName_no hlt (by simp [lower, h1])
        have H := Lib.hid hno; clear hno
        go_wp2
        go_ret
        exact ⟨by rw [H.out]; rfl, rfl⟩
      · have h1' : decide ((s[k].toNat : Int) < 97) = false := by simpa using h1
        by_cases h2 : ((122 : Int) < (s[k].toNat : Int))
        · have hno := okName_no hlt (by simp [lower, h2])
          have H := Lib.hid hno; clear hno
          go_wp2
          go_ret
          exact ⟨by rw [H.out]; rfl, rfl⟩
        · have h2' : decide ((122 : Int) < (s[k].toNat : Int)) = false := by simpa using h2
          have hl := hlow.succ hlt (by simp only [lower, h1', h2']; rfl)
          go_wp2
          go_round
          case rel => exact ⟨k + 1, by omega, by go_num, hl⟩
          case measure => simp [intOf]; omega
    · have hall := hlow.all (by omega)
      have H := Lib.hid hall; clear hall
      go_wp2_with (go_at_call 68; refine (l1In_any _ _ _ _).mono ?_; rintro e w' ⟨rfl, rfl⟩)
      go_ret
      refine ⟨?_, rfl⟩
      unfold okName; rw [H.out]
      show Ending.returned (Value.bool _) = _
      refine congrArg (fun b => Ending.returned (Value.bool b)) ?_
      rw [Bool.eq_iff_iff]; simp; omega

theorem decode_low (s : ByteArray) (pos : Nat) (h : pos < s.size) :
    (lower s[pos] = true ∧ Utf8.decode s pos = (s[pos].toNat, 1)) ∨ (lower s[pos] = false ∧ ((((Utf8.decode s pos).1 : Int) < 97 ∨ (122 : Int) < ((Utf8.decode s pos).1 : Int)))) := by
  by_cases ha : (s[pos]'h).toNat < 128
  · have e := decode_ascii s pos h ha
    by_cases hl : lower s[pos] = true
    · exact .inl ⟨hl, e⟩
    · have hl' : lower s[pos] = false := by simpa using hl
      refine .inr ⟨hl', ?_⟩
      rw [e]
      unfold lower at hl'
      simp at hl'
      show ((s[pos].toNat : Int) < 97 ∨ (122 : Int) < (s[pos].toNat : Int))
      omega
  · have e := (decode_high s pos h (by omega)).1
    refine .inr ⟨?_, ?_⟩
    · unfold lower; simp; omega
    · right; omega


theorem okName_short {s : ByteArray} (h : s.size = 0) : okName s = false := by
  unfold okName; simp [h]
theorem okName_long {s : ByteArray} (h : 12 < s.size) : okName s = false := by
  unfold okName; simp; intros; omega
theorem okName_yes {s : ByteArray} (h0 : 1 ≤ s.size) (h : s.size ≤ 12) (ha : allLow s = true) : okName s = true := by
  unfold okName; simp [ha, h0, h]

set_option maxHeartbeats 400000 in
theorem impl_any (s : ByteArray) (w : World) (hs : s.size ≤ maxLen) :
    Calls Try.prog 21 #[.string s] w fun e w' => e = .returned (.bool (okName s)) ∧ Below w.heap.size w w' := by
  unfold maxLen at hs
  by_cases h0 : s.size = 0
  · have h0' : ((s.size : Int) == 0) = true := by simp [h0]
    have H := Lib.hid (okName_short h0)
    clear h0
    go_enter Try.func21, Try.ntmps21
    go_wp2
    go_ret
    exact ⟨by rw [H.out]; rfl, Below.refl _ _⟩
  · have h0' : ((s.size : Int) == 0) = false := by rw [beq_eq_false_iff_ne]; omega
    by_cases h1 : 12 < s.size
    · have H := Lib.hid (okName_long h1)
      have h1' : (12 : Int) < (s.size : Int) := by omega
      clear h0 h1
      go_enter Try.func21, Try.ntmps21
      go_wp2
      go_ret
      exact ⟨by rw [H.out]; rfl, Below.refl _ _⟩
    · have h1' : decide ((12 : Int) < (s.size : Int)) = false := by simp; omega
      have hp0 : 1 ≤ s.size := by omega
      have hp1 : s.size ≤ 12 := by omega
      clear h0 h1
      go_enter Try.func21, Try.ntmps21
      go_wp2
      go_loopw [4] (fun n w' => ∃ (k : Nat), k ≤ s.size ∧ w' = w.iter s k ∧ LowTo s k) (fun _ w' => s.size - w'.iterPos w.heap.size)
      case atStart => exact ⟨0, Nat.zero_le _, rfl, LowTo.zero s⟩
      case round =>
        obtain ⟨k, hk, rfl, hlow⟩ := hrel
        by_cases hp : k < s.size
        · have hnx : ∀ ty, (Instr.next (.pointer (some ⟨w.heap.size, 0, none⟩)) true ty).run Try.prog (w.iter s k) = _ := fun ty => run_next_any w s k ty hp
          rcases decode_low s k hp with ⟨hl, he⟩ | ⟨hl, he⟩
          · rw [he] at hnx
            have hl2 : decide ((s[k].toNat : Int) < 97) = false ∧ decide ((122 : Int) < (s[k].toNat : Int)) = false := by
              unfold lower at hl; simp at hl ⊢; omega
            obtain ⟨h2, h3⟩ := hl2
            have hls := hlow.succ hp hl
            clear he hl
            go_wp2
            go_roundw
            case rel => exact ⟨k + 1, by omega, rfl, hls⟩
            case measure => simp; omega
          · have H := Lib.hid (okName_no hp hl)
            clear hl
            generalize Utf8.decode s k = d at hnx he
            obtain ⟨c, wd⟩ := d
            by_cases h2 : (c : Int) < 97
            · go_wp2
              go_ret
              exact ⟨by rw [H.out]; rfl, (Below.refl _ _).alloc (Nat.le_refl _) _⟩
            · have h2' : decide ((c : Int) < 97) = false := by simp; omega
              have h3 : (122 : Int) < (c : Int) := by rcases he with he | he; exact absurd he h2; exact he
              clear he h2
              go_wp2
              go_ret
              exact ⟨by rw [H.out]; rfl, (Below.refl _ _).alloc (Nat.le_refl _) _⟩
        · have hnx : ∀ ty, (Instr.next (.pointer (some ⟨w.heap.size, 0, none⟩)) true ty).run Try.prog (w.iter s k) = _ := fun ty => run_next_end w s k ty hp
          have H := Lib.hid (okName_yes hp0 hp1 (hlow.all (by omega)))
          go_wp2
          go_ret
          exact ⟨by rw [H.out]; rfl, (Below.refl _ _).alloc (Nat.le_refl _) _⟩

set_option maxHeartbeats 400000 in
theorem law_any (s : ByteArray) (w : World) (hs : s.size ≤ maxLen) :
    Calls Try.prog 3 #[.string s] w fun e w' => e = .returned (.bool true) ∧ Below w.heap.size w w' := by
  have hs' := hs
  unfold maxLen at hs'
  by_cases hb : 1048576 < s.size
  · have hb' : (1048576 : Int) < (s.size : Int) := by omega
    go_enter Try.func3, Try.ntmps3
    go_wp2
    go_ret
    exact ⟨rfl, Below.refl _ _⟩
  · have hb' : decide ((1048576 : Int) < (s.size : Int)) = false := by simp; omega
    generalize hk : okName s = b
    have H := Lib.hid hk
    have C1 := Lib.hid (spec_any s w hs)
    have C2 := Lib.hid (impl_any s w hs)
    clear hk hb
    go_enter Try.func3, Try.ntmps3
    go_wp2_with (first
      | (go_at_call 20; refine (C1.out).mono ?_; rintro e w' ⟨rfl, rfl⟩; rw [H.out])
      | (go_at_call 21; refine (C2.out).mono ?_; rintro e w' ⟨rfl, hbel⟩; rw [H.out]))
    go_ret
    exact ⟨rfl, hbel⟩
end Go.Proofs.Ytciegilcimbmoaa.fnExactIsName
