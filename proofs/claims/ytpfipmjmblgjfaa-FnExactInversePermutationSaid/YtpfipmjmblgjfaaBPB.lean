/- Contracts of functions of the program and of its model, told over readings. -/
import Derived.Test.YtpfipmjmblgjfaaBPA
import Derived.Test.YtpfipmjmblgjfaaBLgWS
namespace Go.Proofs.Ytpfipmjmblgjfaa
open Go.Lg
set_option maxHeartbeats 1600000
set_option maxRecDepth 10000
set_option linter.unusedVariables false
set_option linter.unusedSimpArgs false

structure RowsLen (rows : List (List Int)) : Prop where
  n : rows.length ≤ Go.maxLen
  each : ∀ r ∈ rows, r.length ≤ Go.maxLen

theorem szN_ok {l : Int} {n : Nat} (h0 : 0 ≤ l) (h1 : l ≤ 1048576) (hn : n ≤ Go.maxLen) (h : 0 ≤ szN l n) : szN l n = l - n ∧ (n : Int) ≤ l := by
  unfold szN at h ⊢
  rw [wrap_sub h0 h1 hn] at h ⊢
  split at h
  · omega
  · exact ⟨rfl, by omega⟩
theorem szRs_ok : ∀ (rows : List (List Int)) (l : Int), 0 ≤ l → l ≤ 1048576 → (∀ r ∈ rows, r.length ≤ Go.maxLen) → 0 ≤ szRs l rows → szRs l rows = l - tot rows ∧ (tot rows : Int) ≤ l
  | [], l, h0, _, _, _ => by simp [szRs, tot]; exact h0
  | r :: rs, l, h0, h1, hn, h => by
    simp only [szRs] at h ⊢
    split at h
    · omega
    · rename_i hh
      rw [ltI_f] at hh
      obtain ⟨a1, a2⟩ := szN_ok h0 h1 (hn r (by simp)) hh
      obtain ⟨b1, b2⟩ := szRs_ok rs _ hh (by omega) (fun q hq => hn q (by simp [hq])) h
      rw [tot_cons]
      exact ⟨by rw [b1, a1]; omega, by omega⟩
theorem tot_mem : ∀ {rows : List (List Int)} {r : List Int}, r ∈ rows → r.length ≤ tot rows
  | x :: xs, r, h => by
    rw [tot_cons]
    rcases List.mem_cons.1 h with rfl | h
    · omega
    · have := tot_mem h; omega
theorem szRows_ok {rows : List (List Int)} {l : Int} (h0 : 0 ≤ l) (h1 : l ≤ 1048576) (hr : RowsLen rows) (h : 0 ≤ szRows l rows) : RowsOK rows ∧ tot rows ≤ 1048576 ∧ rows.length ≤ 1048576 ∧ szRows l rows ≤ l ∧ ltI (szRows l rows) 0 = false := by
  unfold szRows at h ⊢
  split at h
  · omega
  · rename_i hh
    rw [ltI_f] at hh
    obtain ⟨a1, a2⟩ := szN_ok h0 h1 hr.n hh
    obtain ⟨b1, b2⟩ := szRs_ok rows _ hh (by omega) hr.each h
    have hb : RowsOK rows := ⟨by omega, fun r hm => by have := tot_mem hm; omega⟩
    refine ⟨hb, by omega, by omega, by rw [b1]; omega, by rw [ltI_f]; exact h⟩

abbrev shInts : Sh := .sl (.int .i64)
abbrev shRel : Sh := .st [.int .i64, .sl (.sl (.int .i64))]
theorem ints_of : ∀ (xs : List LV), (∀ x ∈ xs, hasSh (.int .i64) x) → ∃ ns : List Int, xs = ns.map intLV
  | [], _ => ⟨[], rfl⟩
  | x :: xs, h => by
    obtain ⟨ns, rfl⟩ := ints_of xs fun y hy => h y (by simp [hy])
    have h0 := h x (by simp)
    simp only [hasSh] at h0
    obtain ⟨n, rfl⟩ := h0
    exact ⟨n :: ns, rfl⟩
theorem row_of_sh {x : LV} (h : hasSh shInts x) : ∃ r : List Int, x = rowSl r ∧ r.length ≤ Go.maxLen := by
  simp only [hasSh] at h
  obtain ⟨xs, rfl, hl, h⟩ := h
  obtain ⟨ns, rfl⟩ := ints_of xs fun x hx => by simp only [hasSh]; exact h x hx
  exact ⟨ns, rfl, by simpa using hl⟩
theorem rows_of : ∀ (xs : List LV), (∀ x ∈ xs, hasSh shInts x) → ∃ rows : List (List Int), xs = rows.map rowSl ∧ ∀ r ∈ rows, r.length ≤ Go.maxLen
  | [], _ => ⟨[], rfl, by simp⟩
  | x :: xs, h => by
    obtain ⟨rows, rfl, hl⟩ := rows_of xs fun y hy => h y (by simp [hy])
    obtain ⟨r, rfl, hr⟩ := row_of_sh (h x (by simp))
    exact ⟨r :: rows, rfl, List.forall_mem_cons.2 ⟨hr, hl⟩⟩
theorem rel_of_sh {x : LV} (h : hasSh shRel x) : ∃ (n : Int) (rows : List (List Int)), x = relLV n rows ∧ RowsLen rows := by
  simp only [hasSh] at h
  obtain ⟨xs, rfl, h⟩ := h
  match xs, h with
  | [a, b], h =>
    simp only [hasShs, hasSh] at h
    obtain ⟨⟨n, rfl⟩, ⟨ys, rfl, hl, hy⟩, _⟩ := h
    obtain ⟨rows, rfl, hr⟩ := rows_of ys fun y hy' => by simp only [hasSh]; exact hy y hy'
    exact ⟨n, rows, rfl, by simpa using hl, hr⟩
  | [], h => simp [hasShs] at h
  | [_], h => simp [hasShs] at h
  | _ :: _ :: _ :: _, h => simp [hasShs] at h

theorem eqB_refl (b : Bool) : eqB b b = true := by unfold eqB; simp

end Go.Proofs.Ytpfipmjmblgjfaa
namespace Go.Proofs.Ytpfipmjmblgjfaa
open Go.Lg Go.Pm
set_option maxHeartbeats 3200000
set_option maxRecDepth 10000
set_option linter.unusedVariables false
set_option linter.unusedSimpArgs false

theorem invL_len (ps : List Int) : (invL ps).length ≤ ps.length := by unfold invL; cases permB ps <;> simp [inv_len]
theorem cmpL_len (ps qs : List Int) : (cmpL ps qs).length ≤ ps.length := by unfold cmpL; cases cmpB ps qs <;> simp [cmp_len]
theorem law_isPermutation (ps : List Int) (hm : ps.length ≤ Go.maxLen) : FSpec env.P 3 [rowSl ps] (.bool true) := by
  refine FSpec_of_code (E := env.x [25] 0) env_ok.x (fn := Try.f3) Try.func3 rfl Try.call3 _ _ ?_
  have hlen : ((ps.map intLV).length : Int) = (ps.length : Int) := by simp
  ((repeat ((conv => whnf); first | refine brT ?_ | refine brF ?_)); conv => whnf)
  intro _
  ((repeat ((conv => whnf); first | refine brT ?_ | refine brF ?_)); conv => whnf)
  rw [hlen]
  (refine ⟨fun h => ?_, fun h => ?_⟩ <;> rw [h])
  · ((repeat ((conv => whnf); first | refine brT ?_ | refine brF ?_)); conv => whnf); exact fin rfl
  rw [ltI_f] at h
  have hb : ps.length ≤ 1048576 := by omega
  ((repeat ((conv => whnf); first | refine brT ?_ | refine brF ?_)); conv => whnf)
  refine ⟨[], _, _, _, _, toIntS_h ps (by omega), rfl, rfl, rfl, trivial, ?_⟩
  ((repeat ((conv => whnf); first | refine brT ?_ | refine brF ?_)); conv => whnf)
  refine ⟨rfl, ?_⟩
  ((repeat ((conv => whnf); first | refine brT ?_ | refine brF ?_)); conv => whnf)
  refine ⟨_, isPerm_spec ps (by omega), ?_⟩
  ((repeat ((conv => whnf); first | refine brT ?_ | refine brF ?_)); conv => whnf)
  refine ⟨[], _, _, _, _, toIntS_h ps (by omega), rfl, rfl, rfl, trivial, ?_⟩
  ((repeat ((conv => whnf); first | refine brT ?_ | refine brF ?_)); conv => whnf)
  refine ⟨rfl, ?_⟩
  ((repeat ((conv => whnf); first | refine brT ?_ | refine brF ?_)); conv => whnf)
  refine ⟨_, isPerm_impl ps (by omega), ?_⟩
  ((repeat ((conv => whnf); first | refine brT ?_ | refine brF ?_)); conv => whnf)
  rw [show notB (eqB (permB ps) (permB ps)) = false by simp [notB, eqB_refl]]
  ((repeat ((conv => whnf); first | refine brT ?_ | refine brF ?_)); conv => whnf)
  refine ⟨[], _, _, _, _, toIntS_h ps (by omega), rfl, rfl, rfl, trivial, ?_⟩
  ((repeat ((conv => whnf); first | refine brT ?_ | refine brF ?_)); conv => whnf)
  refine ⟨rfl, ?_⟩
  ((repeat ((conv => whnf); first | refine brT ?_ | refine brF ?_)); conv => whnf)
  refine ⟨rfl, ?_⟩
  ((repeat ((conv => whnf); first | refine brT ?_ | refine brF ?_)); conv => whnf)
  refine ⟨_, eqIntS_spec ps ps, ?_⟩
  rw [eqIntS_refl]
  ((repeat ((conv => whnf); first | refine brT ?_ | refine brF ?_)); conv => whnf)
  rw [show notB true = false by simp [notB]]
  ((repeat ((conv => whnf); first | refine brT ?_ | refine brF ?_)); conv => whnf)
  exact fin rfl
theorem law_inversePermutation (ps : List Int) (hm : ps.length ≤ Go.maxLen) : FSpec env.P 4 [rowSl ps] (.bool true) := by
  refine FSpec_of_code (E := env.x [25, 29, 30] 0) env_ok.x (fn := Try.f4) Try.func4 rfl Try.call4 _ _ ?_
  have hlen : ((ps.map intLV).length : Int) = (ps.length : Int) := by simp
  ((repeat ((conv => whnf); first | refine brT ?_ | refine brF ?_)); conv => whnf)
  intro _
  ((repeat ((conv => whnf); first | refine brT ?_ | refine brF ?_)); conv => whnf)
  rw [hlen]
  (refine ⟨fun h => ?_, fun h => ?_⟩ <;> rw [h])
  · ((repeat ((conv => whnf); first | refine brT ?_ | refine brF ?_)); conv => whnf); exact fin rfl
  rw [ltI_f] at h
  have hb : ps.length ≤ 1048576 := by omega
  have hI := inv_impl ps (by omega)
  have hS := ints_f (inv_spec ps (by omega))
  have hl := invL_len ps
  generalize invL ps = rs at hI hS hl
  ((repeat ((conv => whnf); first | refine brT ?_ | refine brF ?_)); conv => whnf)
  refine ⟨[], _, _, _, _, toIntS_h ps (by omega), rfl, rfl, rfl, trivial, ?_⟩
  ((repeat ((conv => whnf); first | refine brT ?_ | refine brF ?_)); conv => whnf)
  refine ⟨rfl, ?_⟩
  ((repeat ((conv => whnf); first | refine brT ?_ | refine brF ?_)); conv => whnf)
  refine ⟨_, hS, ?_⟩
  unfold rowOw
  rw [flat_ints]
  ((repeat ((conv => whnf); first | refine brT ?_ | refine brF ?_)); conv => whnf)
  refine ⟨[], _, _, _, _, toIntS_h ps (by omega), rfl, rfl, rfl, trivial, ?_⟩
  ((repeat ((conv => whnf); first | refine brT ?_ | refine brF ?_)); conv => whnf)
  refine ⟨[], _, _, _, _, hI, rfl, ?_⟩
  ((repeat ((conv => whnf); first | refine brT ?_ | refine brF ?_)); conv => whnf)
  refine ⟨rfl, ?_⟩
  ((repeat ((conv => whnf); first | refine brT ?_ | refine brF ?_)); conv => whnf)
  refine ⟨rfl, rfl, ⟨rfl, flats_ints _, trivial⟩, ?_⟩
  ((repeat ((conv => whnf); first | refine brT ?_ | refine brF ?_)); conv => whnf)
  refine ⟨rfl, ?_⟩
  ((repeat ((conv => whnf); first | refine brT ?_ | refine brF ?_)); conv => whnf)
  refine ⟨_, eqIntS_spec rs rs, ?_⟩
  rw [eqIntS_refl]
  ((repeat ((conv => whnf); first | refine brT ?_ | refine brF ?_)); conv => whnf)
  rw [show notB true = false by simp [notB]]
  ((repeat ((conv => whnf); first | refine brT ?_ | refine brF ?_)); conv => whnf)
  refine ⟨[], _, _, _, _, toIntS_h ps (by omega), rfl, rfl, rfl, trivial, ?_⟩
  ((repeat ((conv => whnf); first | refine brT ?_ | refine brF ?_)); conv => whnf)
  refine ⟨rfl, ?_⟩
  ((repeat ((conv => whnf); first | refine brT ?_ | refine brF ?_)); conv => whnf)
  refine ⟨rfl, ?_⟩
  ((repeat ((conv => whnf); first | refine brT ?_ | refine brF ?_)); conv => whnf)
  refine ⟨_, eqIntS_spec ps ps, ?_⟩
  rw [eqIntS_refl]
  ((repeat ((conv => whnf); first | refine brT ?_ | refine brF ?_)); conv => whnf)
  rw [show notB true = false by simp [notB]]
  ((repeat ((conv => whnf); first | refine brT ?_ | refine brF ?_)); conv => whnf)
  refine ⟨[1], _, _, _, _, markIntS_spec ps _ rfl 1 (by omega) (by omega), rfl, rfl, rfl, trivial, ?_⟩
  ((repeat ((conv => whnf); first | refine brT ?_ | refine brF ?_)); conv => whnf)
  rw [show ltI (1 + (ps.length : Int)) 0 = false by rw [ltI_f]; omega]
  ((repeat ((conv => whnf); first | refine brT ?_ | refine brF ?_)); conv => whnf)
  refine ⟨rfl, ?_⟩
  ((repeat ((conv => whnf); first | refine brT ?_ | refine brF ?_)); conv => whnf)
  refine ⟨_, eqIntS_spec rs rs, ?_⟩
  rw [eqIntS_refl]
  ((repeat ((conv => whnf); first | refine brT ?_ | refine brF ?_)); conv => whnf)
  rw [show notB true = false by simp [notB]]
  ((repeat ((conv => whnf); first | refine brT ?_ | refine brF ?_)); conv => whnf)
  refine ⟨[2], _, _, _, _, markIntS_spec rs _ rfl 1 (by omega) (by omega), rfl, rfl, rfl, trivial, ?_⟩
  ((repeat ((conv => whnf); first | refine brT ?_ | refine brF ?_)); conv => whnf)
  refine ⟨by simp [marks_len], ?_⟩
  ((repeat ((conv => whnf); first | refine brT ?_ | refine brF ?_)); conv => whnf)
  refine ⟨_, heldIntS_spec 1 rs.length (by omega) (by omega), ?_⟩
  ((repeat ((conv => whnf); first | refine brT ?_ | refine brF ?_)); conv => whnf)
  rw [show ltI (1 + (rs.length : Int)) 0 = false by rw [ltI_f]; omega]
  ((repeat ((conv => whnf); first | refine brT ?_ | refine brF ?_)); conv => whnf)
  rw [show notB (eqI (1 + (rs.length : Int)) (1 + (rs.length : Int))) = false by simp [notB, eqI_refl]]
  ((repeat ((conv => whnf); first | refine brT ?_ | refine brF ?_)); conv => whnf)
  refine ⟨[], _, _, _, _, toIntS_h ps (by omega), rfl, rfl, rfl, trivial, ?_⟩
  ((repeat ((conv => whnf); first | refine brT ?_ | refine brF ?_)); conv => whnf)
  refine ⟨[], _, _, _, _, hI, rfl, ?_⟩
  ((repeat ((conv => whnf); first | refine brT ?_ | refine brF ?_)); conv => whnf)
  refine ⟨rfl, ?_⟩
  ((repeat ((conv => whnf); first | refine brT ?_ | refine brF ?_)); conv => whnf)
  refine ⟨rfl, rfl, ⟨rfl, flats_ints _, trivial⟩, ?_⟩
  ((repeat ((conv => whnf); first | refine brT ?_ | refine brF ?_)); conv => whnf)
  refine ⟨rfl, ?_⟩
  ((repeat ((conv => whnf); first | refine brT ?_ | refine brF ?_)); conv => whnf)
  refine ⟨_, eqIntS_spec rs rs, ?_⟩
  rw [eqIntS_refl]
  ((repeat ((conv => whnf); first | refine brT ?_ | refine brF ?_)); conv => whnf)
  rw [show notB true = false by simp [notB]]
  ((repeat ((conv => whnf); first | refine brT ?_ | refine brF ?_)); conv => whnf)
  refine ⟨by simp [marks_len], ?_⟩
  ((repeat ((conv => whnf); first | refine brT ?_ | refine brF ?_)); conv => whnf)
  refine ⟨_, heldIntS_spec 1 rs.length (by omega) (by omega), ?_⟩
  ((repeat ((conv => whnf); first | refine brT ?_ | refine brF ?_)); conv => whnf)
  rw [show ltI (1 + (rs.length : Int)) 0 = false by rw [ltI_f]; omega]
  ((repeat ((conv => whnf); first | refine brT ?_ | refine brF ?_)); conv => whnf)
  rw [show notB (eqI (1 + (rs.length : Int)) (1 + (rs.length : Int))) = false by simp [notB, eqI_refl]]
  ((repeat ((conv => whnf); first | refine brT ?_ | refine brF ?_)); conv => whnf)
  exact fin rfl
theorem law_composePermutations (ps qs : List Int) (hm : ps.length ≤ Go.maxLen) (hm2 : qs.length ≤ Go.maxLen) : FSpec env.P 5 [rowSl ps, rowSl qs] (.bool true) := by
  refine FSpec_of_code (E := env.x [25, 33, 30] 0) env_ok.x (fn := Try.f5) Try.func5 rfl Try.call5 _ _ ?_
  have hlen : ((ps.map intLV).length : Int) = (ps.length : Int) := by simp
  have hlen2 : ((qs.map intLV).length : Int) = (qs.length : Int) := by simp
  ((repeat ((conv => whnf); first | refine brT ?_ | refine brF ?_)); conv => whnf)
  intro _
  ((repeat ((conv => whnf); first | refine brT ?_ | refine brF ?_)); conv => whnf)
  rw [hlen]
  (refine ⟨fun h => ?_, fun h => ?_⟩ <;> rw [h])
  · ((repeat ((conv => whnf); first | refine brT ?_ | refine brF ?_)); conv => whnf); exact fin rfl
  rw [ltI_f] at h
  have hb : ps.length ≤ 1048576 := by omega
  ((repeat ((conv => whnf); first | refine brT ?_ | refine brF ?_)); conv => whnf)
  intro _
  ((repeat ((conv => whnf); first | refine brT ?_ | refine brF ?_)); conv => whnf)
  rw [hlen2]
  (refine ⟨fun h2 => ?_, fun h2 => ?_⟩ <;> rw [h2])
  · ((repeat ((conv => whnf); first | refine brT ?_ | refine brF ?_)); conv => whnf); exact fin rfl
  rw [ltI_f] at h2
  have hb2 : qs.length ≤ 1048576 := by omega
  have hI := compose_impl ps qs (by omega) (by omega)
  have hS := ints_f (compose_spec ps qs (by omega) (by omega))
  have hl := cmpL_len ps qs
  generalize cmpL ps qs = rs at hI hS hl
  ((repeat ((conv => whnf); first | refine brT ?_ | refine brF ?_)); conv => whnf)
  refine ⟨[], _, _, _, _, toIntS_h ps (by omega), rfl, rfl, rfl, trivial, ?_⟩
  ((repeat ((conv => whnf); first | refine brT ?_ | refine brF ?_)); conv => whnf)
  refine ⟨[], _, _, _, _, toIntS_h qs (by omega), rfl, rfl, rfl, trivial, ?_⟩
  ((repeat ((conv => whnf); first | refine brT ?_ | refine brF ?_)); conv => whnf)
  refine ⟨rfl, ?_⟩
  ((repeat ((conv => whnf); first | refine brT ?_ | refine brF ?_)); conv => whnf)
  refine ⟨rfl, ?_⟩
  ((repeat ((conv => whnf); first | refine brT ?_ | refine brF ?_)); conv => whnf)
  refine ⟨_, hS, ?_⟩
  unfold rowOw; rw [flat_ints]
  ((repeat ((conv => whnf); first | refine brT ?_ | refine brF ?_)); conv => whnf)
  refine ⟨[], _, _, _, _, toIntS_h ps (by omega), rfl, rfl, rfl, trivial, ?_⟩
  ((repeat ((conv => whnf); first | refine brT ?_ | refine brF ?_)); conv => whnf)
  refine ⟨[], _, _, _, _, toIntS_h qs (by omega), rfl, rfl, rfl, trivial, ?_⟩
  ((repeat ((conv => whnf); first | refine brT ?_ | refine brF ?_)); conv => whnf)
  refine ⟨[], _, _, _, _, hI, rfl, ?_⟩
  ((repeat ((conv => whnf); first | refine brT ?_ | refine brF ?_)); conv => whnf)
  refine ⟨rfl, ?_⟩
  ((repeat ((conv => whnf); first | refine brT ?_ | refine brF ?_)); conv => whnf)
  refine ⟨rfl, ?_⟩
  ((repeat ((conv => whnf); first | refine brT ?_ | refine brF ?_)); conv => whnf)
  refine ⟨rfl, rfl, ⟨rfl, flats_ints _, trivial⟩, ?_⟩
  ((repeat ((conv => whnf); first | refine brT ?_ | refine brF ?_)); conv => whnf)
  refine ⟨rfl, ?_⟩
  ((repeat ((conv => whnf); first | refine brT ?_ | refine brF ?_)); conv => whnf)
  refine ⟨_, eqIntS_spec rs rs, ?_⟩
  rw [eqIntS_refl]
  ((repeat ((conv => whnf); first | refine brT ?_ | refine brF ?_)); conv => whnf)
  rw [show notB true = false by simp [notB]]
  ((repeat ((conv => whnf); first | refine brT ?_ | refine brF ?_)); conv => whnf)
  refine ⟨[], _, _, _, _, toIntS_h ps (by omega), rfl, rfl, rfl, trivial, ?_⟩
  ((repeat ((conv => whnf); first | refine brT ?_ | refine brF ?_)); conv => whnf)
  refine ⟨rfl, ?_⟩
  ((repeat ((conv => whnf); first | refine brT ?_ | refine brF ?_)); conv => whnf)
  refine ⟨rfl, ?_⟩
  ((repeat ((conv => whnf); first | refine brT ?_ | refine brF ?_)); conv => whnf)
  refine ⟨_, eqIntS_spec ps ps, ?_⟩
  rw [eqIntS_refl]
  ((repeat ((conv => whnf); first | refine brT ?_ | refine brF ?_)); conv => whnf)
  rw [show notB true = false by simp [notB]]
  ((repeat ((conv => whnf); first | refine brT ?_ | refine brF ?_)); conv => whnf)
  refine ⟨[], _, _, _, _, toIntS_h qs (by omega), rfl, rfl, rfl, trivial, ?_⟩
  ((repeat ((conv => whnf); first | refine brT ?_ | refine brF ?_)); conv => whnf)
  refine ⟨rfl, ?_⟩
  ((repeat ((conv => whnf); first | refine brT ?_ | refine brF ?_)); conv => whnf)
  refine ⟨rfl, ?_⟩
  ((repeat ((conv => whnf); first | refine brT ?_ | refine brF ?_)); conv => whnf)
  refine ⟨_, eqIntS_spec qs qs, ?_⟩
  rw [eqIntS_refl]
  ((repeat ((conv => whnf); first | refine brT ?_ | refine brF ?_)); conv => whnf)
  rw [show notB true = false by simp [notB]]
  ((repeat ((conv => whnf); first | refine brT ?_ | refine brF ?_)); conv => whnf)
  refine ⟨[2], _, _, _, _, markIntS_spec ps _ rfl 1 (by omega) (by omega), rfl, rfl, rfl, trivial, ?_⟩
  ((repeat ((conv => whnf); first | refine brT ?_ | refine brF ?_)); conv => whnf)
  refine ⟨[3], _, _, _, _, markIntS_spec qs _ rfl (1 + (ps.length : Int)) (by omega) (by omega), rfl, rfl, rfl, trivial, ?_⟩
  ((repeat ((conv => whnf); first | refine brT ?_ | refine brF ?_)); conv => whnf)
  rw [show ltI (1 + (ps.length : Int) + (qs.length : Int)) 0 = false by rw [ltI_f]; omega]
  ((repeat ((conv => whnf); first | refine brT ?_ | refine brF ?_)); conv => whnf)
  refine ⟨rfl, ?_⟩
  ((repeat ((conv => whnf); first | refine brT ?_ | refine brF ?_)); conv => whnf)
  refine ⟨_, eqIntS_spec rs rs, ?_⟩
  rw [eqIntS_refl]
  ((repeat ((conv => whnf); first | refine brT ?_ | refine brF ?_)); conv => whnf)
  rw [show notB true = false by simp [notB]]
  ((repeat ((conv => whnf); first | refine brT ?_ | refine brF ?_)); conv => whnf)
  refine ⟨[4], _, _, _, _, markIntS_spec rs _ rfl 1 (by omega) (by omega), rfl, rfl, rfl, trivial, ?_⟩
  ((repeat ((conv => whnf); first | refine brT ?_ | refine brF ?_)); conv => whnf)
  refine ⟨by simp [marks_len], ?_⟩
  ((repeat ((conv => whnf); first | refine brT ?_ | refine brF ?_)); conv => whnf)
  refine ⟨_, heldIntS_spec 1 rs.length (by omega) (by omega), ?_⟩
  ((repeat ((conv => whnf); first | refine brT ?_ | refine brF ?_)); conv => whnf)
  rw [show ltI (1 + (rs.length : Int)) 0 = false by rw [ltI_f]; omega]
  ((repeat ((conv => whnf); first | refine brT ?_ | refine brF ?_)); conv => whnf)
  rw [show notB (eqI (1 + (rs.length : Int)) (1 + (rs.length : Int))) = false by simp [notB, eqI_refl]]
  ((repeat ((conv => whnf); first | refine brT ?_ | refine brF ?_)); conv => whnf)
  refine ⟨[], _, _, _, _, toIntS_h ps (by omega), rfl, rfl, rfl, trivial, ?_⟩
  ((repeat ((conv => whnf); first | refine brT ?_ | refine brF ?_)); conv => whnf)
  refine ⟨[], _, _, _, _, toIntS_h qs (by omega), rfl, rfl, rfl, trivial, ?_⟩
  ((repeat ((conv => whnf); first | refine brT ?_ | refine brF ?_)); conv => whnf)
  refine ⟨[], _, _, _, _, hI, rfl, ?_⟩
  ((repeat ((conv => whnf); first | refine brT ?_ | refine brF ?_)); conv => whnf)
  refine ⟨rfl, ?_⟩
  ((repeat ((conv => whnf); first | refine brT ?_ | refine brF ?_)); conv => whnf)
  refine ⟨rfl, ?_⟩
  ((repeat ((conv => whnf); first | refine brT ?_ | refine brF ?_)); conv => whnf)
  refine ⟨rfl, rfl, ⟨rfl, flats_ints _, trivial⟩, ?_⟩
  ((repeat ((conv => whnf); first | refine brT ?_ | refine brF ?_)); conv => whnf)
  refine ⟨rfl, ?_⟩
  ((repeat ((conv => whnf); first | refine brT ?_ | refine brF ?_)); conv => whnf)
  refine ⟨_, eqIntS_spec rs rs, ?_⟩
  rw [eqIntS_refl]
  ((repeat ((conv => whnf); first | refine brT ?_ | refine brF ?_)); conv => whnf)
  rw [show notB true = false by simp [notB]]
  ((repeat ((conv => whnf); first | refine brT ?_ | refine brF ?_)); conv => whnf)
  refine ⟨by simp [marks_len], ?_⟩
  ((repeat ((conv => whnf); first | refine brT ?_ | refine brF ?_)); conv => whnf)
  refine ⟨_, heldIntS_spec 1 rs.length (by omega) (by omega), ?_⟩
  ((repeat ((conv => whnf); first | refine brT ?_ | refine brF ?_)); conv => whnf)
  rw [show ltI (1 + (rs.length : Int)) 0 = false by rw [ltI_f]; omega]
  ((repeat ((conv => whnf); first | refine brT ?_ | refine brF ?_)); conv => whnf)
  rw [show notB (eqI (1 + (rs.length : Int)) (1 + (rs.length : Int))) = false by simp [notB, eqI_refl]]
  ((repeat ((conv => whnf); first | refine brT ?_ | refine brF ?_)); conv => whnf)
  exact fin rfl
end Go.Proofs.Ytpfipmjmblgjfaa
