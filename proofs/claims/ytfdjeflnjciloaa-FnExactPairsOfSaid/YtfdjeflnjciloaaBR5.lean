/- Contracts of functions of the program and of its model, told over readings. -/
import Derived.Test.YtfdjeflnjciloaaBR4
import Derived.Test.YtfdjeflnjciloaaBLgWS
namespace Go.Proofs.Ytfdjeflnjciloaa
open Go.Lg
set_option maxHeartbeats 1600000
set_option maxRecDepth 10000
set_option linter.unusedVariables false
set_option linter.unusedSimpArgs false

structure RowsLen (rows : List (List Int)) : Prop where
  n : rows.length ≤ Go.maxLen
  each : ∀ r ∈ rows, r.length ≤ Go.maxLen

theorem szN_ok {l : Int} {n : Nat} (h0 : 0 ≤ l) (h1 : l ≤ 1048576) (hn : n ≤ Go.maxLen) (h : 0 ≤ szN l n) : szN l n = l - n ∧ (n : Int) ≤ l := by
  unfold szN at h ⊢
  rw [wrap_sub h0 h1 hn] at h ⊢
  split at h
  · omega
  · exact ⟨rfl, by omega⟩
theorem szRs_ok : ∀ (rows : List (List Int)) (l : Int), 0 ≤ l → l ≤ 1048576 → (∀ r ∈ rows, r.length ≤ Go.maxLen) → 0 ≤ szRs l rows → szRs l rows = l - tot rows ∧ (tot rows : Int) ≤ l
  | [], l, h0, _, _, _ => by simp [szRs, tot]; exact h0
  | r :: rs, l, h0, h1, hn, h => by
    simp only [szRs] at h ⊢
    split at h
    · omega
    · rename_i hh
      rw [ltI_f] at hh
      obtain ⟨a1, a2⟩ := szN_ok h0 h1 (hn r (by simp)) hh
      obtain ⟨b1, b2⟩ := szRs_ok rs _ hh (by omega) (fun q hq => hn q (by simp [hq])) h
      rw [tot_cons]
      exact ⟨by rw [b1, a1]; omega, by omega⟩
theorem tot_mem : ∀ {rows : List (List Int)} {r : List Int}, r ∈ rows → r.length ≤ tot rows
  | x :: xs, r, h => by
    rw [tot_cons]
    rcases List.mem_cons.1 h with rfl | h
    · omega
    · have := tot_mem h; omega
theorem szRows_ok {rows : List (List Int)} {l : Int} (h0 : 0 ≤ l) (h1 : l ≤ 1048576) (hr : RowsLen rows) (h : 0 ≤ szRows l rows) : RowsOK rows ∧ tot rows ≤ 1048576 ∧ rows.length ≤ 1048576 ∧ szRows l rows ≤ l ∧ ltI (szRows l rows) 0 = false := by
  unfold szRows at h ⊢
  split at h
  · omega
  · rename_i hh
    rw [ltI_f] at hh
    obtain ⟨a1, a2⟩ := szN_ok h0 h1 hr.n hh
    obtain ⟨b1, b2⟩ := szRs_ok rows _ hh (by omega) hr.each h
    have hb : RowsOK rows := ⟨by omega, fun r hm => by have := tot_mem hm; omega⟩
    refine ⟨hb, by omega, by omega, by rw [b1]; omega, by rw [ltI_f]; exact h⟩

abbrev shInts : Sh := .sl (.int .i64)
abbrev shRel : Sh := .st [.int .i64, .sl (.sl (.int .i64))]
theorem ints_of : ∀ (xs : List LV), (∀ x ∈ xs, hasSh (.int .i64) x) → ∃ ns : List Int, xs = ns.map intLV
  | [], _ => ⟨[], rfl⟩
  | x :: xs, h => by
    obtain ⟨ns, rfl⟩ := ints_of xs fun y hy => h y (by simp [hy])
    have h0 := h x (by simp)
    simp only [hasSh] at h0
    obtain ⟨n, rfl⟩ := h0
    exact ⟨n :: ns, rfl⟩
theorem row_of_sh {x : LV} (h : hasSh shInts x) : ∃ r : List Int, x = rowSl r ∧ r.length ≤ Go.maxLen := by
  simp only [hasSh] at h
  obtain ⟨xs, rfl, hl, h⟩ := h
  obtain ⟨ns, rfl⟩ := ints_of xs fun x hx => by simp only [hasSh]; exact h x hx
  exact ⟨ns, rfl, by simpa using hl⟩
theorem rows_of : ∀ (xs : List LV), (∀ x ∈ xs, hasSh shInts x) → ∃ rows : List (List Int), xs = rows.map rowSl ∧ ∀ r ∈ rows, r.length ≤ Go.maxLen
  | [], _ => ⟨[], rfl, by simp⟩
  | x :: xs, h => by
    obtain ⟨rows, rfl, hl⟩ := rows_of xs fun y hy => h y (by simp [hy])
    obtain ⟨r, rfl, hr⟩ := row_of_sh (h x (by simp))
    exact ⟨r :: rows, rfl, List.forall_mem_cons.2 ⟨hr, hl⟩⟩
theorem rel_of_sh {x : LV} (h : hasSh shRel x) : ∃ (n : Int) (rows : List (List Int)), x = relLV n rows ∧ RowsLen rows := by
  simp only [hasSh] at h
  obtain ⟨xs, rfl, h⟩ := h
  match xs, h with
  | [a, b], h =>
    simp only [hasShs, hasSh] at h
    obtain ⟨⟨n, rfl⟩, ⟨ys, rfl, hl, hy⟩, _⟩ := h
    obtain ⟨rows, rfl, hr⟩ := rows_of ys fun y hy' => by simp only [hasSh]; exact hy y hy'
    exact ⟨n, rows, rfl, by simpa using hl, hr⟩
  | [], h => simp [hasShs] at h
  | [_], h => simp [hasShs] at h
  | _ :: _ :: _ :: _, h => simp [hasShs] at h

theorem eqB_refl (b : Bool) : eqB b b = true := by unfold eqB; simp

theorem law_isRelation (n : Int) (rows : List (List Int)) (hl : RowsLen rows) : FSpec env.P 11 [relLV n rows] (.bool true) := by
  refine FSpec_of_code env_ok (fn := Try.f11) Try.func11 rfl Try.call11 _ _ ?_
  ((repeat ((conv => whnf); first | refine brT ?_ | refine brF ?_)); conv => whnf)
  refine ⟨_, szRelation_spec n rows 1048576, ?_⟩
  by_cases h0 : 0 ≤ szRows 1048576 rows
  rotate_left
  · rw [show ltI (szRows 1048576 rows) 0 = true by rw [ltI_t]; omega]
    ((repeat ((conv => whnf); first | refine brT ?_ | refine brF ?_)); conv => whnf)
    rw [show ltI (-1) 0 = true by rw [ltI_t]; omega]
    ((repeat ((conv => whnf); first | refine brT ?_ | refine brF ?_)); conv => whnf)
    exact fin rfl
  obtain ⟨hb, ht, hlen, _, hf⟩ := szRows_ok (by omega) (by omega) hl h0
  rw [hf]
  ((repeat ((conv => whnf); first | refine brT ?_ | refine brF ?_)); conv => whnf)
  rw [hf]
  ((repeat ((conv => whnf); first | refine brT ?_ | refine brF ?_)); conv => whnf)
  refine ⟨_, toRelation_f n rows hb, ?_⟩
  ((repeat ((conv => whnf); first | refine brT ?_ | refine brF ?_)); conv => whnf)
  refine ⟨_, isRelation_spec n rows, ?_⟩
  ((repeat ((conv => whnf); first | refine brT ?_ | refine brF ?_)); conv => whnf)
  refine ⟨_, toRelation_f n rows hb, ?_⟩
  ((repeat ((conv => whnf); first | refine brT ?_ | refine brF ?_)); conv => whnf)
  refine ⟨_, isRelation_impl n rows, ?_⟩
  ((repeat ((conv => whnf); first | refine brT ?_ | refine brF ?_)); conv => whnf)
  rw [eqB_refl, show notB true = false by simp [notB]]
  ((repeat ((conv => whnf); first | refine brT ?_ | refine brF ?_)); conv => whnf)
  refine ⟨by kernel_rfl, ?_⟩
  ((repeat ((conv => whnf); first | refine brT ?_ | refine brF ?_)); conv => whnf)
  refine ⟨_, toRelation_f n rows hb, ?_⟩
  ((repeat ((conv => whnf); first | refine brT ?_ | refine brF ?_)); conv => whnf)
  refine ⟨_, eqRelation_spec n rows n rows, ?_⟩
  rw [eqRel_refl]
  ((repeat ((conv => whnf); first | refine brT ?_ | refine brF ?_)); conv => whnf)
  rw [show notB true = false by simp [notB]]
  ((repeat ((conv => whnf); first | refine brT ?_ | refine brF ?_)); conv => whnf)
  exact fin rfl
end Go.Proofs.Ytfdjeflnjciloaa
