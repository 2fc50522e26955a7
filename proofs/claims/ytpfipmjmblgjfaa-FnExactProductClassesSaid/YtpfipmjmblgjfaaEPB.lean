/- Contracts of functions of the program and of its model, told over readings. -/
import Derived.Test.YtpfipmjmblgjfaaEPA
import Derived.Test.YtpfipmjmblgjfaaELgWS
import Derived.Test.YtpfipmjmblgjfaaELgMF
namespace Go.Proofs.Ytpfipmjmblgjfaa
open Go.Lg
set_option maxHeartbeats 1600000
set_option maxRecDepth 10000
set_option linter.unusedVariables false
set_option linter.unusedSimpArgs false

structure RowsLen (rows : List (List Int)) : Prop where
  n : rows.length ≤ Go.maxLen
  each : ∀ r ∈ rows, r.length ≤ Go.maxLen

theorem szN_ok {l : Int} {n : Nat} (h0 : 0 ≤ l) (h1 : l ≤ 1048576) (hn : n ≤ Go.maxLen) (h : 0 ≤ szN l n) : szN l n = l - n ∧ (n : Int) ≤ l := by
  unfold szN at h ⊢
  rw [wrap_sub h0 h1 hn] at h ⊢
  split at h
  · omega
  · exact ⟨rfl, by omega⟩
theorem szRs_ok : ∀ (rows : List (List Int)) (l : Int), 0 ≤ l → l ≤ 1048576 → (∀ r ∈ rows, r.length ≤ Go.maxLen) → 0 ≤ szRs l rows → szRs l rows = l - tot rows ∧ (tot rows : Int) ≤ l
  | [], l, h0, _, _, _ => by simp [szRs, tot]; exact h0
  | r :: rs, l, h0, h1, hn, h => by
    simp only [szRs] at h ⊢
    split at h
    · omega
    · rename_i hh
      rw [ltI_f] at hh
      obtain ⟨a1, a2⟩ := szN_ok h0 h1 (hn r (by simp)) hh
      obtain ⟨b1, b2⟩ := szRs_ok rs _ hh (by omega) (fun q hq => hn q (by simp [hq])) h
      rw [tot_cons]
      exact ⟨by rw [b1, a1]; omega, by omega⟩
theorem tot_mem : ∀ {rows : List (List Int)} {r : List Int}, r ∈ rows → r.length ≤ tot rows
  | x :: xs, r, h => by
    rw [tot_cons]
    rcases List.mem_cons.1 h with rfl | h
    · omega
    · have := tot_mem h; omega
theorem szRows_ok {rows : List (List Int)} {l : Int} (h0 : 0 ≤ l) (h1 : l ≤ 1048576) (hr : RowsLen rows) (h : 0 ≤ szRows l rows) : RowsOK rows ∧ tot rows ≤ 1048576 ∧ rows.length ≤ 1048576 ∧ szRows l rows ≤ l ∧ ltI (szRows l rows) 0 = false := by
  unfold szRows at h ⊢
  split at h
  · omega
  · rename_i hh
    rw [ltI_f] at hh
    obtain ⟨a1, a2⟩ := szN_ok h0 h1 hr.n hh
    obtain ⟨b1, b2⟩ := szRs_ok rows _ hh (by omega) hr.each h
    have hb : RowsOK rows := ⟨by omega, fun r hm => by have := tot_mem hm; omega⟩
    refine ⟨hb, by omega, by omega, by rw [b1]; omega, by rw [ltI_f]; exact h⟩

abbrev shInts : Sh := .sl (.int .i64)
abbrev shRel : Sh := .st [.int .i64, .sl (.sl (.int .i64))]
theorem ints_of : ∀ (xs : List LV), (∀ x ∈ xs, hasSh (.int .i64) x) → ∃ ns : List Int, xs = ns.map intLV
  | [], _ => ⟨[], rfl⟩
  | x :: xs, h => by
    obtain ⟨ns, rfl⟩ := ints_of xs fun y hy => h y (by simp [hy])
    have h0 := h x (by simp)
    simp only [hasSh] at h0
    obtain ⟨n, rfl⟩ := h0
    exact ⟨n :: ns, rfl⟩
theorem row_of_sh {x : LV} (h : hasSh shInts x) : ∃ r : List Int, x = rowSl r ∧ r.length ≤ Go.maxLen := by
  simp only [hasSh] at h
  obtain ⟨xs, rfl, hl, h⟩ := h
  obtain ⟨ns, rfl⟩ := ints_of xs fun x hx => by simp only [hasSh]; exact h x hx
  exact ⟨ns, rfl, by simpa using hl⟩
theorem rows_of : ∀ (xs : List LV), (∀ x ∈ xs, hasSh shInts x) → ∃ rows : List (List Int), xs = rows.map rowSl ∧ ∀ r ∈ rows, r.length ≤ Go.maxLen
  | [], _ => ⟨[], rfl, by simp⟩
  | x :: xs, h => by
    obtain ⟨rows, rfl, hl⟩ := rows_of xs fun y hy => h y (by simp [hy])
    obtain ⟨r, rfl, hr⟩ := row_of_sh (h x (by simp))
    exact ⟨r :: rows, rfl, List.forall_mem_cons.2 ⟨hr, hl⟩⟩
theorem rel_of_sh {x : LV} (h : hasSh shRel x) : ∃ (n : Int) (rows : List (List Int)), x = relLV n rows ∧ RowsLen rows := by
  simp only [hasSh] at h
  obtain ⟨xs, rfl, h⟩ := h
  match xs, h with
  | [a, b], h =>
    simp only [hasShs, hasSh] at h
    obtain ⟨⟨n, rfl⟩, ⟨ys, rfl, hl, hy⟩, _⟩ := h
    obtain ⟨rows, rfl, hr⟩ := rows_of ys fun y hy' => by simp only [hasSh]; exact hy y hy'
    exact ⟨n, rows, rfl, by simpa using hl, hr⟩
  | [], h => simp [hasShs] at h
  | [_], h => simp [hasShs] at h
  | _ :: _ :: _ :: _, h => simp [hasShs] at h

theorem eqB_refl (b : Bool) : eqB b b = true := by unfold eqB; simp

end Go.Proofs.Ytpfipmjmblgjfaa
namespace Go.Proofs.Ytpfipmjmblgjfaa
open Go.Lg Go.Pm
set_option maxHeartbeats 3200000
set_option maxRecDepth 10000
set_option linter.unusedVariables false
set_option linter.unusedSimpArgs false

theorem invL_len (ps : List Int) : (invL ps).length ≤ ps.length := by unfold invL; cases permB ps <;> simp [inv_len]
theorem cmpL_len (ps qs : List Int) : (cmpL ps qs).length ≤ ps.length := by unfold cmpL; cases cmpB ps qs <;> simp [cmp_len]
theorem law_isPermutation (ps : List Int) (hm : ps.length ≤ Go.maxLen) : FSpec env.P 3 [rowSl ps] (.bool true) := by
  refine FSpec_of_code (E := env.x [25] 0) env_ok.x (fn := Try.f3) Try.func3 rfl Try.call3 _ _ ?_
  have hlen : ((ps.map intLV).length : Int) = (ps.length : Int) := by simp
  ((repeat ((conv => whnf); first | refine brT ?_ | refine brF ?_)); conv => whnf)
  intro _
  ((repeat ((conv => whnf); first | refine brT ?_ | refine brF ?_)); conv => whnf)
  rw [hlen]
  (refine ⟨fun h => ?_, fun h => ?_⟩ <;> rw [h])
  · ((repeat ((conv => whnf); first | refine brT ?_ | refine brF ?_)); conv => whnf); exact fin rfl
  rw [ltI_f] at h
  have hb : ps.length ≤ 1048576 := by omega
  ((repeat ((conv => whnf); first | refine brT ?_ | refine brF ?_)); conv => whnf)
  refine ⟨[], _, _, _, _, toIntS_h ps (by omega), rfl, rfl, rfl, trivial, ?_⟩
  ((repeat ((conv => whnf); first | refine brT ?_ | refine brF ?_)); conv => whnf)
  refine ⟨rfl, ?_⟩
  ((repeat ((conv => whnf); first | refine brT ?_ | refine brF ?_)); conv => whnf)
  refine ⟨_, isPerm_spec ps (by omega), ?_⟩
  ((repeat ((conv => whnf); first | refine brT ?_ | refine brF ?_)); conv => whnf)
  refine ⟨[], _, _, _, _, toIntS_h ps (by omega), rfl, rfl, rfl, trivial, ?_⟩
  ((repeat ((conv => whnf); first | refine brT ?_ | refine brF ?_)); conv => whnf)
  refine ⟨rfl, ?_⟩
  ((repeat ((conv => whnf); first | refine brT ?_ | refine brF ?_)); conv => whnf)
  refine ⟨_, isPerm_impl ps (by omega), ?_⟩
  ((repeat ((conv => whnf); first | refine brT ?_ | refine brF ?_)); conv => whnf)
  rw [show notB (eqB (permB ps) (permB ps)) = false by simp [notB, eqB_refl]]
  ((repeat ((conv => whnf); first | refine brT ?_ | refine brF ?_)); conv => whnf)
  refine ⟨[], _, _, _, _, toIntS_h ps (by omega), rfl, rfl, rfl, trivial, ?_⟩
  ((repeat ((conv => whnf); first | refine brT ?_ | refine brF ?_)); conv => whnf)
  refine ⟨rfl, ?_⟩
  ((repeat ((conv => whnf); first | refine brT ?_ | refine brF ?_)); conv => whnf)
  refine ⟨rfl, ?_⟩
  ((repeat ((conv => whnf); first | refine brT ?_ | refine brF ?_)); conv => whnf)
  refine ⟨_, eqIntS_spec ps ps, ?_⟩
  rw [eqIntS_refl]
  ((repeat ((conv => whnf); first | refine brT ?_ | refine brF ?_)); conv => whnf)
  rw [show notB true = false by simp [notB]]
  ((repeat ((conv => whnf); first | refine brT ?_ | refine brF ?_)); conv => whnf)
  exact fin rfl
theorem law_inversePermutation (ps : List Int) (hm : ps.length ≤ Go.maxLen) : FSpec env.P 4 [rowSl ps] (.bool true) := by
  refine FSpec_of_code (E := env.x [25, 29, 30] 0) env_ok.x (fn := Try.f4) Try.func4 rfl Try.call4 _ _ ?_
  have hlen : ((ps.map intLV).length : Int) = (ps.length : Int) := by simp
  ((repeat ((conv => whnf); first | refine brT ?_ | refine brF ?_)); conv => whnf)
  intro _
  ((repeat ((conv => whnf); first | refine brT ?_ | refine brF ?_)); conv => whnf)
  rw [hlen]
  (refine ⟨fun h => ?_, fun h => ?_⟩ <;> rw [h])
  · ((repeat ((conv => whnf); first | refine brT ?_ | refine brF ?_)); conv => whnf); exact fin rfl
  rw [ltI_f] at h
  have hb : ps.length ≤ 1048576 := by omega
  have hI := inv_impl ps (by omega)
  have hS := ints_f (inv_spec ps (by omega))
  have hl := invL_len ps
  generalize invL ps = rs at hI hS hl
  ((repeat ((conv => whnf); first | refine brT ?_ | refine brF ?_)); conv => whnf)
  refine ⟨[], _, _, _, _, toIntS_h ps (by omega), rfl, rfl, rfl, trivial, ?_⟩
  ((repeat ((conv => whnf); first | refine brT ?_ | refine brF ?_)); conv => whnf)
  refine ⟨rfl, ?_⟩
  ((repeat ((conv => whnf); first | refine brT ?_ | refine brF ?_)); conv => whnf)
  refine ⟨_, hS, ?_⟩
  unfold rowOw
  rw [flat_ints]
  ((repeat ((conv => whnf); first | refine brT ?_ | refine brF ?_)); conv => whnf)
  refine ⟨[], _, _, _, _, toIntS_h ps (by omega), rfl, rfl, rfl, trivial, ?_⟩
  ((repeat ((conv => whnf); first | refine brT ?_ | refine brF ?_)); conv => whnf)
  refine ⟨[], _, _, _, _, hI, rfl, ?_⟩
  ((repeat ((conv => whnf); first | refine brT ?_ | refine brF ?_)); conv => whnf)
  refine ⟨rfl, ?_⟩
  ((repeat ((conv => whnf); first | refine brT ?_ | refine brF ?_)); conv => whnf)
  refine ⟨rfl, rfl, ⟨rfl, flats_ints _, trivial⟩, ?_⟩
  ((repeat ((conv => whnf); first | refine brT ?_ | refine brF ?_)); conv => whnf)
  refine ⟨rfl, ?_⟩
  ((repeat ((conv => whnf); first | refine brT ?_ | refine brF ?_)); conv => whnf)
  refine ⟨_, eqIntS_spec rs rs, ?_⟩
  rw [eqIntS_refl]
  ((repeat ((conv => whnf); first | refine brT ?_ | refine brF ?_)); conv => whnf)
  rw [show notB true = false by simp [notB]]
  ((repeat ((conv => whnf); first | refine brT ?_ | refine brF ?_)); conv => whnf)
  refine ⟨[], _, _, _, _, toIntS_h ps (by omega), rfl, rfl, rfl, trivial, ?_⟩
  ((repeat ((conv => whnf); first | refine brT ?_ | refine brF ?_)); conv => whnf)
  refine ⟨rfl, ?_⟩
  ((repeat ((conv => whnf); first | refine brT ?_ | refine brF ?_)); conv => whnf)
  refine ⟨rfl, ?_⟩
  ((repeat ((conv => whnf); first | refine brT ?_ | refine brF ?_)); conv => whnf)
  refine ⟨_, eqIntS_spec ps ps, ?_⟩
  rw [eqIntS_refl]
  ((repeat ((conv => whnf); first | refine brT ?_ | refine brF ?_)); conv => whnf)
  rw [show notB true = false by simp [notB]]
  ((repeat ((conv => whnf); first | refine brT ?_ | refine brF ?_)); conv => whnf)
  refine ⟨[1], _, _, _, _, markIntS_spec ps _ rfl 1 (by omega) (by omega), rfl, rfl, rfl, trivial, ?_⟩
  ((repeat ((conv => whnf); first | refine brT ?_ | refine brF ?_)); conv => whnf)
  rw [show ltI (1 + (ps.length : Int)) 0 = false by rw [ltI_f]; omega]
  ((repeat ((conv => whnf); first | refine brT ?_ | refine brF ?_)); conv => whnf)
  refine ⟨rfl, ?_⟩
  ((repeat ((conv => whnf); first | refine brT ?_ | refine brF ?_)); conv => whnf)
  refine ⟨_, eqIntS_spec rs rs, ?_⟩
  rw [eqIntS_refl]
  ((repeat ((conv => whnf); first | refine brT ?_ | refine brF ?_)); conv => whnf)
  rw [show notB true = false by simp [notB]]
  ((repeat ((conv => whnf); first | refine brT ?_ | refine brF ?_)); conv => whnf)
  refine ⟨[2], _, _, _, _, markIntS_spec rs _ rfl 1 (by omega) (by omega), rfl, rfl, rfl, trivial, ?_⟩
  ((repeat ((conv => whnf); first | refine brT ?_ | refine brF ?_)); conv => whnf)
  refine ⟨by simp [marks_len], ?_⟩
  ((repeat ((conv => whnf); first | refine brT ?_ | refine brF ?_)); conv => whnf)
  refine ⟨_, heldIntS_spec 1 rs.length (by omega) (by omega), ?_⟩
  ((repeat ((conv => whnf); first | refine brT ?_ | refine brF ?_)); conv => whnf)
  rw [show ltI (1 + (rs.length : Int)) 0 = false by rw [ltI_f]; omega]
  ((repeat ((conv => whnf); first | refine brT ?_ | refine brF ?_)); conv => whnf)
  rw [show notB (eqI (1 + (rs.length : Int)) (1 + (rs.length : Int))) = false by simp [notB, eqI_refl]]
  ((repeat ((conv => whnf); first | refine brT ?_ | refine brF ?_)); conv => whnf)
  refine ⟨[], _, _, _, _, toIntS_h ps (by omega), rfl, rfl, rfl, trivial, ?_⟩
  ((repeat ((conv => whnf); first | refine brT ?_ | refine brF ?_)); conv => whnf)
  refine ⟨[], _, _, _, _, hI, rfl, ?_⟩
  ((repeat ((conv => whnf); first | refine brT ?_ | refine brF ?_)); conv => whnf)
  refine ⟨rfl, ?_⟩
  ((repeat ((conv => whnf); first | refine brT ?_ | refine brF ?_)); conv => whnf)
  refine ⟨rfl, rfl, ⟨rfl, flats_ints _, trivial⟩, ?_⟩
  ((repeat ((conv => whnf); first | refine brT ?_ | refine brF ?_)); conv => whnf)
  refine ⟨rfl, ?_⟩
  ((repeat ((conv => whnf); first | refine brT ?_ | refine brF ?_)); conv => whnf)
  refine ⟨_, eqIntS_spec rs rs, ?_⟩
  rw [eqIntS_refl]
  ((repeat ((conv => whnf); first | refine brT ?_ | refine brF ?_)); conv => whnf)
  rw [show notB true = false by simp [notB]]
  ((repeat ((conv => whnf); first | refine brT ?_ | refine brF ?_)); conv => whnf)
  refine ⟨by simp [marks_len], ?_⟩
  ((repeat ((conv => whnf); first | refine brT ?_ | refine brF ?_)); conv => whnf)
  refine ⟨_, heldIntS_spec 1 rs.length (by omega) (by omega), ?_⟩
  ((repeat ((conv => whnf); first | refine brT ?_ | refine brF ?_)); conv => whnf)
  rw [show ltI (1 + (rs.length : Int)) 0 = false by rw [ltI_f]; omega]
  ((repeat ((conv => whnf); first | refine brT ?_ | refine brF ?_)); conv => whnf)
  rw [show notB (eqI (1 + (rs.length : Int)) (1 + (rs.length : Int))) = false by simp [notB, eqI_refl]]
  ((repeat ((conv => whnf); first | refine brT ?_ | refine brF ?_)); conv => whnf)
  exact fin rfl
theorem law_composePermutations (ps qs : List Int) (hm : ps.length ≤ Go.maxLen) (hm2 : qs.length ≤ Go.maxLen) : FSpec env.P 5 [rowSl ps, rowSl qs] (.bool true) := by
  refine FSpec_of_code (E := env.x [25, 33, 30] 0) env_ok.x (fn := Try.f5) Try.func5 rfl Try.call5 _ _ ?_
  have hlen : ((ps.map intLV).length : Int) = (ps.length : Int) := by simp
  have hlen2 : ((qs.map intLV).length : Int) = (qs.length : Int) := by simp
  ((repeat ((conv => whnf); first | refine brT ?_ | refine brF ?_)); conv => whnf)
  intro _
  ((repeat ((conv => whnf); first | refine brT ?_ | refine brF ?_)); conv => whnf)
  rw [hlen]
  (refine ⟨fun h => ?_, fun h => ?_⟩ <;> rw [h])
  · ((repeat ((conv => whnf); first | refine brT ?_ | refine brF ?_)); conv => whnf); exact fin rfl
  rw [ltI_f] at h
  have hb : ps.length ≤ 1048576 := by omega
  ((repeat ((conv => whnf); first | refine brT ?_ | refine brF ?_)); conv => whnf)
  intro _
  ((repeat ((conv => whnf); first | refine brT ?_ | refine brF ?_)); conv => whnf)
  rw [hlen2]
  (refine ⟨fun h2 => ?_, fun h2 => ?_⟩ <;> rw [h2])
  · ((repeat ((conv => whnf); first | refine brT ?_ | refine brF ?_)); conv => whnf); exact fin rfl
  rw [ltI_f] at h2
  have hb2 : qs.length ≤ 1048576 := by omega
  have hI := compose_impl ps qs (by omega) (by omega)
  have hS := ints_f (compose_spec ps qs (by omega) (by omega))
  have hl := cmpL_len ps qs
  generalize cmpL ps qs = rs at hI hS hl
  ((repeat ((conv => whnf); first | refine brT ?_ | refine brF ?_)); conv => whnf)
  refine ⟨[], _, _, _, _, toIntS_h ps (by omega), rfl, rfl, rfl, trivial, ?_⟩
  ((repeat ((conv => whnf); first | refine brT ?_ | refine brF ?_)); conv => whnf)
  refine ⟨[], _, _, _, _, toIntS_h qs (by omega), rfl, rfl, rfl, trivial, ?_⟩
  ((repeat ((conv => whnf); first | refine brT ?_ | refine brF ?_)); conv => whnf)
  refine ⟨rfl, ?_⟩
  ((repeat ((conv => whnf); first | refine brT ?_ | refine brF ?_)); conv => whnf)
  refine ⟨rfl, ?_⟩
  ((repeat ((conv => whnf); first | refine brT ?_ | refine brF ?_)); conv => whnf)
  refine ⟨_, hS, ?_⟩
  unfold rowOw; rw [flat_ints]
  ((repeat ((conv => whnf); first | refine brT ?_ | refine brF ?_)); conv => whnf)
  refine ⟨[], _, _, _, _, toIntS_h ps (by omega), rfl, rfl, rfl, trivial, ?_⟩
  ((repeat ((conv => whnf); first | refine brT ?_ | refine brF ?_)); conv => whnf)
  refine ⟨[], _, _, _, _, toIntS_h qs (by omega), rfl, rfl, rfl, trivial, ?_⟩
  ((repeat ((conv => whnf); first | refine brT ?_ | refine brF ?_)); conv => whnf)
  refine ⟨[], _, _, _, _, hI, rfl, ?_⟩
  ((repeat ((conv => whnf); first | refine brT ?_ | refine brF ?_)); conv => whnf)
  refine ⟨rfl, ?_⟩
  ((repeat ((conv => whnf); first | refine brT ?_ | refine brF ?_)); conv => whnf)
  refine ⟨rfl, ?_⟩
  ((repeat ((conv => whnf); first | refine brT ?_ | refine brF ?_)); conv => whnf)
  refine ⟨rfl, rfl, ⟨rfl, flats_ints _, trivial⟩, ?_⟩
  ((repeat ((conv => whnf); first | refine brT ?_ | refine brF ?_)); conv => whnf)
  refine ⟨rfl, ?_⟩
  ((repeat ((conv => whnf); first | refine brT ?_ | refine brF ?_)); conv => whnf)
  refine ⟨_, eqIntS_spec rs rs, ?_⟩
  rw [eqIntS_refl]
  ((repeat ((conv => whnf); first | refine brT ?_ | refine brF ?_)); conv => whnf)
  rw [show notB true = false by simp [notB]]
  ((repeat ((conv => whnf); first | refine brT ?_ | refine brF ?_)); conv => whnf)
  refine ⟨[], _, _, _, _, toIntS_h ps (by omega), rfl, rfl, rfl, trivial, ?_⟩
  ((repeat ((conv => whnf); first | refine brT ?_ | refine brF ?_)); conv => whnf)
  refine ⟨rfl, ?_⟩
  ((repeat ((conv => whnf); first | refine brT ?_ | refine brF ?_)); conv => whnf)
  refine ⟨rfl, ?_⟩
  ((repeat ((conv => whnf); first | refine brT ?_ | refine brF ?_)); conv => whnf)
  refine ⟨_, eqIntS_spec ps ps, ?_⟩
  rw [eqIntS_refl]
  ((repeat ((conv => whnf); first | refine brT ?_ | refine brF ?_)); conv => whnf)
  rw [show notB true = false by simp [notB]]
  ((repeat ((conv => whnf); first | refine brT ?_ | refine brF ?_)); conv => whnf)
  refine ⟨[], _, _, _, _, toIntS_h qs (by omega), rfl, rfl, rfl, trivial, ?_⟩
  ((repeat ((conv => whnf); first | refine brT ?_ | refine brF ?_)); conv => whnf)
  refine ⟨rfl, ?_⟩
  ((repeat ((conv => whnf); first | refine brT ?_ | refine brF ?_)); conv => whnf)
  refine ⟨rfl, ?_⟩
  ((repeat ((conv => whnf); first | refine brT ?_ | refine brF ?_)); conv => whnf)
  refine ⟨_, eqIntS_spec qs qs, ?_⟩
  rw [eqIntS_refl]
  ((repeat ((conv => whnf); first | refine brT ?_ | refine brF ?_)); conv => whnf)
  rw [show notB true = false by simp [notB]]
  ((repeat ((conv => whnf); first | refine brT ?_ | refine brF ?_)); conv => whnf)
  refine ⟨[2], _, _, _, _, markIntS_spec ps _ rfl 1 (by omega) (by omega), rfl, rfl, rfl, trivial, ?_⟩
  ((repeat ((conv => whnf); first | refine brT ?_ | refine brF ?_)); conv => whnf)
  refine ⟨[3], _, _, _, _, markIntS_spec qs _ rfl (1 + (ps.length : Int)) (by omega) (by omega), rfl, rfl, rfl, trivial, ?_⟩
  ((repeat ((conv => whnf); first | refine brT ?_ | refine brF ?_)); conv => whnf)
  rw [show ltI (1 + (ps.length : Int) + (qs.length : Int)) 0 = false by rw [ltI_f]; omega]
  ((repeat ((conv => whnf); first | refine brT ?_ | refine brF ?_)); conv => whnf)
  refine ⟨rfl, ?_⟩
  ((repeat ((conv => whnf); first | refine brT ?_ | refine brF ?_)); conv => whnf)
  refine ⟨_, eqIntS_spec rs rs, ?_⟩
  rw [eqIntS_refl]
  ((repeat ((conv => whnf); first | refine brT ?_ | refine brF ?_)); conv => whnf)
  rw [show notB true = false by simp [notB]]
  ((repeat ((conv => whnf); first | refine brT ?_ | refine brF ?_)); conv => whnf)
  refine ⟨[4], _, _, _, _, markIntS_spec rs _ rfl 1 (by omega) (by omega), rfl, rfl, rfl, trivial, ?_⟩
  ((repeat ((conv => whnf); first | refine brT ?_ | refine brF ?_)); conv => whnf)
  refine ⟨by simp [marks_len], ?_⟩
  ((repeat ((conv => whnf); first | refine brT ?_ | refine brF ?_)); conv => whnf)
  refine ⟨_, heldIntS_spec 1 rs.length (by omega) (by omega), ?_⟩
  ((repeat ((conv => whnf); first | refine brT ?_ | refine brF ?_)); conv => whnf)
  rw [show ltI (1 + (rs.length : Int)) 0 = false by rw [ltI_f]; omega]
  ((repeat ((conv => whnf); first | refine brT ?_ | refine brF ?_)); conv => whnf)
  rw [show notB (eqI (1 + (rs.length : Int)) (1 + (rs.length : Int))) = false by simp [notB, eqI_refl]]
  ((repeat ((conv => whnf); first | refine brT ?_ | refine brF ?_)); conv => whnf)
  refine ⟨[], _, _, _, _, toIntS_h ps (by omega), rfl, rfl, rfl, trivial, ?_⟩
  ((repeat ((conv => whnf); first | refine brT ?_ | refine brF ?_)); conv => whnf)
  refine ⟨[], _, _, _, _, toIntS_h qs (by omega), rfl, rfl, rfl, trivial, ?_⟩
  ((repeat ((conv => whnf); first | refine brT ?_ | refine brF ?_)); conv => whnf)
  refine ⟨[], _, _, _, _, hI, rfl, ?_⟩
  ((repeat ((conv => whnf); first | refine brT ?_ | refine brF ?_)); conv => whnf)
  refine ⟨rfl, ?_⟩
  ((repeat ((conv => whnf); first | refine brT ?_ | refine brF ?_)); conv => whnf)
  refine ⟨rfl, ?_⟩
  ((repeat ((conv => whnf); first | refine brT ?_ | refine brF ?_)); conv => whnf)
  refine ⟨rfl, rfl, ⟨rfl, flats_ints _, trivial⟩, ?_⟩
  ((repeat ((conv => whnf); first | refine brT ?_ | refine brF ?_)); conv => whnf)
  refine ⟨rfl, ?_⟩
  ((repeat ((conv => whnf); first | refine brT ?_ | refine brF ?_)); conv => whnf)
  refine ⟨_, eqIntS_spec rs rs, ?_⟩
  rw [eqIntS_refl]
  ((repeat ((conv => whnf); first | refine brT ?_ | refine brF ?_)); conv => whnf)
  rw [show notB true = false by simp [notB]]
  ((repeat ((conv => whnf); first | refine brT ?_ | refine brF ?_)); conv => whnf)
  refine ⟨by simp [marks_len], ?_⟩
  ((repeat ((conv => whnf); first | refine brT ?_ | refine brF ?_)); conv => whnf)
  refine ⟨_, heldIntS_spec 1 rs.length (by omega) (by omega), ?_⟩
  ((repeat ((conv => whnf); first | refine brT ?_ | refine brF ?_)); conv => whnf)
  rw [show ltI (1 + (rs.length : Int)) 0 = false by rw [ltI_f]; omega]
  ((repeat ((conv => whnf); first | refine brT ?_ | refine brF ?_)); conv => whnf)
  rw [show notB (eqI (1 + (rs.length : Int)) (1 + (rs.length : Int))) = false by simp [notB, eqI_refl]]
  ((repeat ((conv => whnf); first | refine brT ?_ | refine brF ?_)); conv => whnf)
  exact fin rfl
end Go.Proofs.Ytpfipmjmblgjfaa

namespace Go.Proofs.Ytpfipmjmblgjfaa
open Go.Lg
set_option maxHeartbeats 1600000
set_option maxRecDepth 10000
set_option linter.unusedVariables false
set_option linter.unusedSimpArgs false

/-! ### Bits -/
theorem u64_wrap {n : Nat} (h : n < 2 ^ 64) : IntKind.u64.wrap (n : Int) = n := by
  unfold IntKind.wrap
  simp [IntKind.signed, IntKind.bits]
  omega
theorem ofInt_nat (n : Nat) : BitVec.ofInt 64 (n : Int) = BitVec.ofNat 64 n := by simp
theorem orI_nat {a b : Nat} (ha : a < 2 ^ 64) (hb : b < 2 ^ 64) : Go.Lg.orI .u64 (a : Int) (b : Int) = ((a ||| b : Nat) : Int) := by
  unfold Go.Lg.orI
  show IntKind.u64.wrap ((BitVec.ofInt 64 (a : Int) ||| BitVec.ofInt 64 (b : Int)).toNat) = _
  rw [ofInt_nat, ofInt_nat, BitVec.toNat_or, BitVec.toNat_ofNat, BitVec.toNat_ofNat, Nat.mod_eq_of_lt ha, Nat.mod_eq_of_lt hb]
  exact u64_wrap (Nat.or_lt_two_pow ha hb)
theorem andI_nat {a b : Nat} (ha : a < 2 ^ 64) (hb : b < 2 ^ 64) : andI .u64 (a : Int) (b : Int) = ((a &&& b : Nat) : Int) := by
  unfold andI
  show IntKind.u64.wrap ((BitVec.ofInt 64 (a : Int) &&& BitVec.ofInt 64 (b : Int)).toNat) = _
  rw [ofInt_nat, ofInt_nat, BitVec.toNat_and, BitVec.toNat_ofNat, BitVec.toNat_ofNat, Nat.mod_eq_of_lt ha, Nat.mod_eq_of_lt hb]
  exact u64_wrap (Nat.and_lt_two_pow a hb)
/-- a but not b, in 64 bits -/
def lessN (a b : Nat) : Nat := (BitVec.ofNat 64 a &&& ~~~BitVec.ofNat 64 b).toNat
theorem lessN_lt (a b : Nat) : lessN a b < 2 ^ 64 := (BitVec.ofNat 64 a &&& ~~~BitVec.ofNat 64 b).isLt
theorem andNotI_nat (a b : Nat) : andNotI .u64 (a : Int) (b : Int) = (lessN a b : Int) := by
  unfold andNotI
  show IntKind.u64.wrap ((BitVec.ofInt 64 (a : Int) &&& ~~~BitVec.ofInt 64 (b : Int)).toNat) = _
  rw [ofInt_nat, ofInt_nat]
  exact u64_wrap (lessN_lt a b)
theorem lessN_bit {a b i : Nat} (ha : a < 2 ^ 64) (hi : i < 64) : (lessN a b).testBit i = (a.testBit i && !b.testBit i) := by
  unfold lessN
  rw [BitVec.testBit_toNat, BitVec.getLsbD_and, BitVec.getLsbD_not, BitVec.getLsbD_ofNat, BitVec.getLsbD_ofNat]
  simp [hi]
theorem shlI_one {b : Int} (h0 : 0 ≤ b) (h1 : b < 64) : shlI .u64 1 b = ((2 ^ b.toNat : Nat) : Int) := by
  unfold shlI
  have hm : min b.toNat IntKind.u64.bits = b.toNat := by
    have : b.toNat < 64 := by omega
    simp [IntKind.bits]; omega
  rw [hm, Int.one_mul]
  have hlt : 2 ^ b.toNat < 2 ^ 64 := Nat.pow_lt_pow_right (by omega) (by omega)
  have := u64_wrap hlt
  rw [← this]
  simp

def uLV (s : Nat) : LV := .int .u64 (s : Int)
/-- The set of a row. -/
def setFrom : Nat → List Int → Nat
  | s, [] => s
  | s, b :: bs => setFrom (s ||| 2 ^ b.toNat) bs
def setN (row : List Int) : Nat := setFrom 0 row
def inSize (row : List Int) : Prop := ∀ b ∈ row, 0 ≤ b ∧ b < 40
theorem two_lt {b : Nat} (h : b < 64) : 2 ^ b < 2 ^ 64 := Nat.pow_lt_pow_right (by omega) h
theorem setFrom_lt : ∀ (row : List Int) (s : Nat), s < 2 ^ 64 → inSize row → setFrom s row < 2 ^ 64
  | [], s, h, _ => h
  | b :: bs, s, h, hr => by
    have := hr b (by simp)
    exact setFrom_lt bs _ (Nat.or_lt_two_pow h (two_lt (by omega))) fun x hx => hr x (by simp [hx])
theorem setFrom_bit : ∀ (row : List Int) (s i : Nat), inSize row → (setFrom s row).testBit i = (s.testBit i || decide ((i : Int) ∈ row))
  | [], s, i, _ => by simp [setFrom]
  | b :: bs, s, i, hr => by
    have hb := hr b (by simp)
    simp only [setFrom]
    rw [setFrom_bit bs _ i fun x hx => hr x (by simp [hx]), Nat.testBit_or, Nat.testBit_two_pow]
    have : (b.toNat = i) ↔ ((i : Int) = b) := by omega
    simp only [List.mem_cons, this, Bool.or_assoc, Bool.decide_or]
theorem setN_bit {row : List Int} (h : inSize row) (i : Nat) : (setN row).testBit i = decide ((i : Int) ∈ row) := by unfold setN; rw [setFrom_bit row 0 i h]; simp
theorem setN_lt {row : List Int} (h : inSize row) : setN row < 2 ^ 64 := setFrom_lt row 0 (by decide) h

/-- (numberSet).has -/
def hasN (s : Nat) (b : Int) : Bool := s.testBit b.toNat
theorem has_bits {s : Nat} {b : Int} (hs : s < 2 ^ 64) (h0 : 0 ≤ b) (h1 : b < 64) : notB (eqI (andI .u64 (s : Int) (shlI .u64 1 b)) 0) = hasN s b := by
  rw [shlI_one h0 h1, andI_nat hs (two_lt (by omega))]
  unfold hasN notB eqI
  have hx : s &&& 2 ^ b.toNat = if s.testBit b.toNat then 2 ^ b.toNat else 0 := by
    apply Nat.eq_of_testBit_eq
    intro i
    rw [Nat.testBit_and, Nat.testBit_two_pow]
    by_cases hi : b.toNat = i
    · subst hi
      cases h : s.testBit b.toNat <;> simp [Nat.testBit_two_pow]
    · cases h : s.testBit b.toNat <;> simp [hi, Nat.testBit_two_pow]
  rw [hx]
  have hp : 0 < 2 ^ b.toNat := Nat.two_pow_pos _
  cases s.testBit b.toNat
  · simp
  · simp only [if_true]
    rw [Bool.not_eq_true', beq_eq_false_iff_ne]
    omega
end Go.Proofs.Ytpfipmjmblgjfaa
namespace Go.Proofs.Ytpfipmjmblgjfaa
open Go.Lg
set_option maxHeartbeats 1600000
set_option maxRecDepth 10000
set_option linter.unusedVariables false
set_option linter.unusedSimpArgs false

theorem rowFrom_cons {n last b : Int} {bs : List Int} (h : rowFrom n last (b :: bs) = true) : last < b ∧ b < n ∧ rowFrom n b bs = true := by
  simp only [rowFrom] at h
  split at h
  · cases h
  · rename_i h1
    split at h
    · cases h
    · rename_i h2
      rw [leI_f] at h1 h2
      exact ⟨h1, h2, h⟩
theorem rowFrom_mem : ∀ {r : List Int} {n last : Int}, rowFrom n last r = true → ∀ b ∈ r, last < b ∧ b < n
  | [], _, _, _, b, hb => by simp at hb
  | x :: xs, n, last, h, b, hb => by
    obtain ⟨h1, h2, h3⟩ := rowFrom_cons h
    rcases List.mem_cons.1 hb with rfl | hb
    · exact ⟨h1, h2⟩
    · have := rowFrom_mem h3 b hb; omega
theorem rowFrom_len : ∀ {r : List Int} {n last : Int}, rowFrom n last r = true → (r.length : Int) + last ≤ n - 1 ∨ r = []
  | [], _, _, _ => .inr rfl
  | x :: xs, n, last, h => by
    obtain ⟨h1, h2, h3⟩ := rowFrom_cons h
    left
    rcases rowFrom_len h3 with h4 | rfl
    · simp only [List.length_cons]; omega
    · simp; omega
structure RelIn (n : Int) (rows : List (List Int)) : Prop where
  lo : 0 ≤ n
  hi : n ≤ 40
  len : (rows.length : Int) = n
  row : ∀ r ∈ rows, rowFrom n (-1) r = true
theorem relIn_of {n : Int} {rows : List (List Int)} (h : relOk n rows = true) : RelIn n rows := by
  unfold relOk rowsOk at h
  simp only [Bool.and_eq_true, leI_t, eqI_t, List.all_eq_true] at h
  exact ⟨h.1.1.1, h.1.1.2, h.1.2, h.2⟩
theorem relOk_of {n : Int} {rows : List (List Int)} (h : RelIn n rows) : relOk n rows = true := by
  unfold relOk rowsOk
  simp only [Bool.and_eq_true, leI_t, eqI_t, List.all_eq_true]
  exact ⟨⟨⟨h.lo, h.hi⟩, h.len⟩, h.row⟩
theorem RelIn.mem {n : Int} {rows : List (List Int)} (h : RelIn n rows) {r : List Int} (hr : r ∈ rows) {b : Int} (hb : b ∈ r) : 0 ≤ b ∧ b < n ∧ b < 40 := by
  have := rowFrom_mem (h.row r hr) b hb
  have := h.hi
  omega
theorem RelIn.rlen {n : Int} {rows : List (List Int)} (h : RelIn n rows) {r : List Int} (hr : r ∈ rows) : r.length ≤ 40 := by
  have h1 := h.hi
  rcases rowFrom_len (h.row r hr) with h2 | rfl
  · omega
  · simp

/-! ### Pairs -/
structure Pr where
  a : Int
  b : Int
def Pr.lv (p : Pr) : LV := .st [.int .i64 p.a, .int .i64 p.b]
def prRow (a : Nat) (r : List Int) : List Pr := r.map fun b => ⟨a, b⟩
def prFrom : Nat → List (List Int) → List Pr
  | _, [] => []
  | a, r :: rs => prRow a r ++ prFrom (a + 1) rs
theorem prFrom_snoc : ∀ (a : Nat) (rs : List (List Int)) (r : List Int), prFrom a (rs ++ [r]) = prFrom a rs ++ prRow (a + rs.length) r
  | a, [], r => by simp [prFrom]
  | a, x :: xs, r => by
    simp only [List.cons_append, prFrom, prFrom_snoc _ xs r, List.append_assoc, List.length_cons]
    congr 3; omega
theorem prFrom_len : ∀ (a : Nat) (rs : List (List Int)), (prFrom a rs).length = tot rs
  | _, [] => rfl
  | a, r :: rs => by simp [prFrom, prRow, tot_cons, prFrom_len _ rs]
theorem tot_le {m : Nat} : ∀ {rows : List (List Int)}, (∀ r ∈ rows, r.length ≤ m) → tot rows ≤ rows.length * m
  | [], _ => by simp [tot]
  | r :: rs, h => by
    have h1 := h r (by simp)
    have h2 := tot_le (rows := rs) fun q hq => h q (by simp [hq])
    rw [tot_cons, List.length_cons, Nat.succ_mul]; omega
theorem RelIn.tot {n : Int} {rows : List (List Int)} (h : RelIn n rows) : tot rows ≤ 1600 := by
  have h1 := tot_le (rows := rows) (m := 40) fun r hr => h.rlen hr
  have h2 : rows.length ≤ 40 := by have := h.len; have := h.hi; omega
  have := Nat.mul_le_mul_right 40 h2
  omega
/-- What has been listed when k rows are done, and i numbers of the next. -/
def prTo (rows : List (List Int)) (k i : Nat) : List Pr := prFrom 0 (rows.take k) ++ prRow k ((rows.getD k []).take i)
theorem prTo_zero (rows : List (List Int)) (k : Nat) : prTo rows k 0 = prFrom 0 (rows.take k) := by simp [prTo, prRow]
theorem prTo_succ {rows : List (List Int)} {k i : Nat} (hk : k < rows.length) (hi : i < rows[k].length) : prTo rows k (i + 1) = prTo rows k i ++ [⟨k, rows[k][i]⟩] := by
  have hg : rows.getD k [] = rows[k] := by simp [List.getD_eq_getElem?_getD, hk]
  unfold prTo
  rw [hg, List.take_succ_eq_append_getElem hi]
  simp only [prRow, List.map_append, List.map_cons, List.map_nil, List.append_assoc]
theorem prTo_row {rows : List (List Int)} {k : Nat} (hk : k < rows.length) : prTo rows k rows[k].length = prTo rows (k + 1) 0 := by
  have hg : rows.getD k [] = rows[k] := by simp [List.getD_eq_getElem?_getD, hk]
  rw [prTo_zero]
  unfold prTo
  rw [hg, List.take_length, List.take_succ_eq_append_getElem hk, prFrom_snoc]
  simp [List.length_take, Nat.min_eq_left (Nat.le_of_lt hk)]
theorem prTo_len {rows : List (List Int)} {k i : Nat} (hk : k < rows.length) (hi : i ≤ rows[k].length) : (prTo rows k i).length ≤ tot rows := by
  have hg : rows.getD k [] = rows[k] := by simp [List.getD_eq_getElem?_getD, hk]
  have h1 := tot_take_succ hk
  have h2 := tot_take_le rows (k + 1)
  unfold prTo
  rw [List.length_append, prFrom_len, hg]
  simp [prRow]
  omega
def pairsL (n : Int) (rows : List (List Int)) : List Pr := match relOk n rows with | true => prFrom 0 rows | false => []
theorem pairsL_len (n : Int) (rows : List (List Int)) : (pairsL n rows).length ≤ 1600 := by
  unfold pairsL
  split
  · rename_i h; rw [prFrom_len]; exact (relIn_of h).tot
  · simp
end Go.Proofs.Ytpfipmjmblgjfaa

namespace Go.Proofs.Ytpfipmjmblgjfaa
open Go.Lg
set_option maxHeartbeats 1600000
set_option maxRecDepth 10000
set_option linter.unusedVariables false
set_option linter.unusedSimpArgs false

/-- The numbers of a set, below k. -/
def listTo (s : Nat) (k : Nat) : List Int := List.map (fun i : Nat => (i : Int)) (List.filter (fun i : Nat => s.testBit i) (List.range k))
def listN (s : Nat) : List Int := listTo s 40
theorem listTo_len (s k : Nat) : (listTo s k).length ≤ k := by
  unfold listTo
  rw [List.length_map]
  exact Nat.le_trans (List.length_filter_le _ _) (by simp)
theorem listTo_succ (s k : Nat) : listTo s (k + 1) = listTo s k ++ (match hasN s (k : Int) with | true => [(k : Int)] | false => []) := by
  unfold listTo hasN
  rw [List.range_succ, List.filter_append, List.map_append]
  congr 1
  simp only [List.filter_cons, List.filter_nil, Int.toNat_natCast]
  cases s.testBit k <;> rfl

end Go.Proofs.Ytpfipmjmblgjfaa
namespace Go.Proofs.Ytpfipmjmblgjfaa
open Go.Lg
set_option maxHeartbeats 1600000
set_option maxRecDepth 10000
set_option linter.unusedVariables false
set_option linter.unusedSimpArgs false

/-- The rows of what is related among n numbers. -/
def relRows (n : Nat) (P : Nat → Nat → Bool) : List (List Int) := (List.range n).map fun a => List.map (fun i : Nat => (i : Int)) (List.filter (fun b : Nat => P a b) (List.range n))
theorem relRows_len (n : Nat) (P : Nat → Nat → Bool) : (relRows n P).length = n := by simp [relRows]

theorem listTo_cut {s n : Nat} (h : ∀ i, n ≤ i → i < 40 → s.testBit i = false) (hn : n ≤ 40) : listN s = listTo s n := by
  have key : ∀ m, n ≤ m → m ≤ 40 → listTo s m = listTo s n := by
    intro m
    induction m with
    | zero => intro h1 _; have : n = 0 := by omega
              subst this; rfl
    | succ m ih =>
      intro h1 h2
      by_cases e : n = m + 1
      · subst e; rfl
      · rw [listTo_succ, ih (by omega) (by omega)]
        have : hasN s (m : Int) = false := by unfold hasN; simpa using h m (by omega) (by omega)
        rw [this]; simp
  exact key 40 hn (Nat.le_refl _)

/-- Sets of numbers, as rows. -/
theorem rows_of_sets {ss : List Nat} {n : Nat} {P : Nat → Nat → Bool} (hl : ss.length = n) (hn : n ≤ 40) (h : ∀ (a : Nat) (ha : a < ss.length) (b : Nat), b < 40 → ss[a].testBit b = (decide (b < n) && P a b)) :
    ss.map listN = relRows n P := by
  apply List.ext_getElem
  · simp [relRows, hl]
  · intro a h1 h2
    have ha : a < ss.length := by simpa using h1
    simp only [List.getElem_map, relRows, List.getElem_range]
    rw [listTo_cut (n := n) (fun i hi hi40 => by rw [h a ha i hi40]; simp; omega) hn]
    unfold listTo
    congr 1
    apply List.filter_congr
    intro b hb
    have hb : b < n := by simpa using hb
    rw [h a ha b (by omega)]; simp [hb]

theorem flatTs_rows : ∀ rows : List (List Int), flatTs (rows.map rowOw) = true
  | [] => rfl
  | r :: rs => by simp only [List.map_cons, flatTs, Bool.and_eq_true]; exact ⟨by simp only [rowOw, flatT1]; exact flats_ints r, flatTs_rows rs⟩

/-- Both valid, of one size. -/
def alike (n : Int) (rows : List (List Int)) (m : Int) (rows' : List (List Int)) : Bool := eqI n m && relOk n rows && relOk m rows'
def bLV (b : Bool) : LV := .bool b
def lineOw (l : List Bool) : LV := .own 4 1 (l.map bLV)
def lineSl (l : List Bool) : LV := .sl (l.map bLV)
theorem dms_lines : ∀ g : List (List Bool), dms (g.map lineOw) = g.map lineSl
  | [] => rfl
  | r :: rs => by simp only [List.map_cons, dms, dms_lines rs]; rfl
def blank (n k : Nat) : List (List Bool) := List.replicate k (List.replicate n false)

end Go.Proofs.Ytpfipmjmblgjfaa
namespace Go.Proofs.Ytpfipmjmblgjfaa
open Go.Lg
set_option maxHeartbeats 1600000
set_option maxRecDepth 10000
set_option linter.unusedVariables false
set_option linter.unusedSimpArgs false

/-- The places of a line that are true, below k. -/
def lineTo (l : List Bool) (k : Nat) : List Int := List.map (fun i : Nat => (i : Int)) (List.filter (fun i : Nat => l.getD i false) (List.range k))
def lineN (l : List Bool) : List Int := lineTo l l.length
theorem lineTo_len (l : List Bool) (k : Nat) : (lineTo l k).length ≤ k := by
  unfold lineTo
  rw [List.length_map]
  exact Nat.le_trans (List.length_filter_le _ _) (by simp)
theorem lineTo_succ {l : List Bool} {k : Nat} (h : k < l.length) : lineTo l (k + 1) = lineTo l k ++ (match l[k] with | true => [(k : Int)] | false => []) := by
  unfold lineTo
  rw [List.range_succ, List.filter_append, List.map_append]
  congr 1
  have : l.getD k false = l[k] := by simp [List.getD_eq_getElem?_getD, h]
  simp only [List.filter_cons, List.filter_nil, this]
  cases l[k] <;> rfl

end Go.Proofs.Ytpfipmjmblgjfaa
namespace Go.Proofs.Ytpfipmjmblgjfaa
open Go.Lg
set_option maxHeartbeats 1600000
set_option maxRecDepth 10000
set_option linter.unusedVariables false
set_option linter.unusedSimpArgs false

/-- The relation in which nobody is related, among n numbers. -/
def empN (n : Int) : Nat := if 0 ≤ n ∧ n ≤ 40 then n.toNat else 0
def empR (k : Nat) : List (List Int) := List.replicate k []
theorem empN_le (n : Int) : empN n ≤ 40 := by unfold empN; split <;> omega
theorem empN_ok {n : Int} (h0 : 0 ≤ n) (h1 : n ≤ 40) : n = (empN n : Int) := by unfold empN; rw [if_pos ⟨h0, h1⟩]; omega
theorem empN_no {n : Int} (h : ¬ (0 ≤ n ∧ n ≤ 40)) : empN n = 0 := by unfold empN; rw [if_neg h]
theorem lineN_false (n : Nat) : lineN (List.replicate n false) = [] := by
  unfold lineN lineTo
  rw [List.map_eq_nil_iff, List.filter_eq_nil_iff]
  intro i hi
  simp [List.getD_eq_getElem?_getD, List.getElem?_replicate]
  split <;> simp
theorem blank_lines (n k : Nat) : (blank n k).map lineN = empR k := by
  unfold blank empR
  rw [List.map_replicate, lineN_false]
theorem listN_zero : listN 0 = [] := by decide

theorem isSize_ok {n : Int} (h : notB (leI 0 n && leI n 40) = false) : 0 ≤ n ∧ n ≤ 40 := by
  rw [notB_f, Bool.and_eq_true] at h
  exact ⟨leI_t.1 h.1, leI_t.1 h.2⟩
theorem isSize_no {n : Int} (h : notB (leI 0 n && leI n 40) = true) : ¬ (0 ≤ n ∧ n ≤ 40) := by
  rw [notB_t] at h
  rintro ⟨a, b⟩
  rw [leI_t.2 a, leI_t.2 b] at h
  cases h

theorem empR_flat (k : Nat) : tot (empR k) = 0 := by
  unfold empR
  induction k with
  | zero => rfl
  | succ k ih => rw [List.replicate_succ, tot_cons, ih]; rfl
theorem empR_mark (j : Int) : ∀ k : Nat, markRows j (empR k) = empR k := by
  intro k
  unfold empR
  induction k generalizing j with
  | zero => rfl
  | succ k ih => rw [List.replicate_succ]; simp only [markRows]; rw [ih]; rfl

end Go.Proofs.Ytpfipmjmblgjfaa
namespace Go.Proofs.Ytpfipmjmblgjfaa
open Go.Lg
set_option maxHeartbeats 1600000
set_option maxRecDepth 10000
set_option linter.unusedVariables false
set_option linter.unusedSimpArgs false

/-- What the table says of a and b when k rows are done, and i numbers of the next. -/
def gAt (rows : List (List Int)) (k i a b : Nat) : Bool := decide ((a < k ∧ (b : Int) ∈ rows.getD a []) ∨ (a = k ∧ (b : Int) ∈ (rows.getD k []).take i))
def gridTo (rows : List (List Int)) (k i : Nat) : List (List Bool) := (List.range rows.length).map fun a => (List.range rows.length).map fun b => gAt rows k i a b
def gridL (rows : List (List Int)) : List (List Bool) := gridTo rows rows.length 0
theorem gridTo_len (rows : List (List Int)) (k i : Nat) : (gridTo rows k i).length = rows.length := by simp [gridTo]
theorem gridTo_zero (rows : List (List Int)) : gridTo rows 0 0 = blank rows.length rows.length := by
  unfold gridTo blank
  apply List.ext_getElem
  · simp
  · intro a h1 h2
    simp only [List.getElem_map, List.getElem_range, List.getElem_replicate]
    apply List.ext_getElem
    · simp
    · intro b h3 h4
      simp [gAt]
theorem gridTo_row {rows : List (List Int)} {k : Nat} (hk : k < rows.length) : gridTo rows k rows[k].length = gridTo rows (k + 1) 0 := by
  unfold gridTo
  have hg : rows.getD k [] = rows[k] := by simp [List.getD_eq_getElem?_getD, hk]
  apply List.map_congr_left
  intro a _
  apply List.map_congr_left
  intro b _
  unfold gAt
  rw [hg, List.take_length, decide_eq_decide]
  constructor
  · rintro (⟨h1, h2⟩ | ⟨h1, h2⟩)
    · exact .inl ⟨by omega, h2⟩
    · subst h1; exact .inl ⟨by omega, by rw [hg]; exact h2⟩
  · rintro (⟨h1, h2⟩ | ⟨h1, h2⟩)
    · by_cases e : a = k
      · subst e; rw [hg] at h2; exact .inr ⟨rfl, h2⟩
      · exact .inl ⟨by omega, h2⟩
    · simp at h2
def gLine (rows : List (List Int)) (k i : Nat) : List Bool := (List.range rows.length).map fun b => gAt rows k i k b
theorem gLine_len (rows : List (List Int)) (k i : Nat) : (gLine rows k i).length = rows.length := by simp [gLine]
theorem gridTo_get {rows : List (List Int)} {k i : Nat} (hk : k < rows.length) : (gridTo rows k i)[k]? = some (gLine rows k i) := by
  simp [gridTo, gLine, hk]
theorem gLine_set {rows : List (List Int)} {k i b : Nat} (hk : k < rows.length) (hi : i < rows[k].length) (hb : rows[k][i] = (b : Int)) : (gLine rows k i).set b true = gLine rows k (i + 1) := by
  have hg : rows.getD k [] = rows[k] := by simp [List.getD_eq_getElem?_getD, hk]
  apply List.ext_getElem
  · simp [gLine]
  · intro c h1 h2
    rw [List.getElem_set]
    simp only [gLine, List.getElem_map, List.getElem_range, gAt, hg, List.take_succ_eq_append_getElem hi, List.mem_append, List.mem_singleton, hb]
    split
    · rename_i e; subst e; simp
    · rename_i e
      rw [decide_eq_decide]
      have : ¬ ((c : Int) = (b : Int)) := by omega
      simp [this]
theorem gridTo_set {rows : List (List Int)} {k i b : Nat} (hk : k < rows.length) (hi : i < rows[k].length) (hb : rows[k][i] = (b : Int)) : (gridTo rows k i).set k (gLine rows k (i + 1)) = gridTo rows k (i + 1) := by
  have hg : rows.getD k [] = rows[k] := by simp [List.getD_eq_getElem?_getD, hk]
  apply List.ext_getElem
  · simp [gridTo]
  · intro a h1 h2
    rw [List.getElem_set]
    split
    · rename_i e; subst e; simp [gridTo, gLine]
    · rename_i e
      simp only [gridTo, List.getElem_map, List.getElem_range]
      apply List.map_congr_left
      intro c _
      unfold gAt
      rw [decide_eq_decide]
      have : ¬ (a = k) := fun h => e h.symm
      simp [this]

end Go.Proofs.Ytpfipmjmblgjfaa
namespace Go.Proofs.Ytpfipmjmblgjfaa
open Go.Lg
set_option maxHeartbeats 1600000
set_option maxRecDepth 10000
set_option linter.unusedVariables false
set_option linter.unusedSimpArgs false

def idxOf : Nat → List Int → Int → Int
  | _, [], _ => -1
  | k, x :: xs, v => match eqI v x with | true => (k : Int) | false => idxOf (k + 1) xs v
theorem idxOf_has : ∀ (k : Nat) (xs : List Int) (v : Int), leI 0 (idxOf k xs v) = decide (v ∈ xs)
  | k, [], v => by simp only [idxOf]; rw [show leI 0 (-1) = false by rw [leI_f]; omega]; simp
  | k, x :: xs, v => by
    simp only [idxOf]
    cases h : eqI v x
    · simp only []
      rw [idxOf_has (k + 1) xs v]
      rw [eqI_f] at h
      simp [h]
    · simp only []
      rw [eqI_t] at h
      subst h
      rw [show leI 0 (k : Int) = true by rw [leI_t]; omega]
      simp
/-- Whether a is related to b. -/
def isRel (n : Int) (rows : List (List Int)) (a b : Int) : Bool := relOk n rows && decide (0 ≤ a ∧ a < n ∧ b ∈ rows.getD a.toNat [])

theorem gLine_at {rows : List (List Int)} {a b : Nat} (ha : a < rows.length) (hb : b < rows.length) : gAt rows rows.length 0 a b = decide ((b : Int) ∈ rows[a]) := by
  have hg : rows.getD a [] = rows[a] := by simp [List.getD_eq_getElem?_getD, ha]
  unfold gAt
  rw [hg, decide_eq_decide]
  simp [ha]
def gRow (rows : List (List Int)) (a : Nat) : List Bool := (List.range rows.length).map fun b => gAt rows rows.length 0 a b
theorem gRow_len (rows : List (List Int)) (a : Nat) : (gRow rows a).length = rows.length := by simp [gRow]
theorem gridL_len (rows : List (List Int)) : (gridL rows).length = rows.length := gridTo_len rows _ _
theorem gridL_get {rows : List (List Int)} {a : Nat} (ha : a < rows.length) : (gridL rows)[a]? = some (gRow rows a) := by simp [gridL, gridTo, gRow, ha]
theorem gRow_get {rows : List (List Int)} {a b : Nat} (ha : a < rows.length) (hb : b < rows.length) : (gRow rows a)[b]? = some (decide ((b : Int) ∈ rows[a])) := by
  rw [← gLine_at ha hb]
  simp [gRow, hb]
theorem flatTs_lines : ∀ g : List (List Bool), flatTs (g.map lineOw) = true
  | [] => rfl
  | r :: rs => by
    simp only [List.map_cons, flatTs, Bool.and_eq_true]
    refine ⟨?_, flatTs_lines rs⟩
    simp only [lineOw, flatT1]
    induction r with
    | nil => rfl
    | cons x xs ih => simp only [List.map_cons, flatsB, Bool.and_eq_true]; exact ⟨rfl, ih⟩

end Go.Proofs.Ytpfipmjmblgjfaa
namespace Go.Proofs.Ytpfipmjmblgjfaa
open Go.Lg
set_option maxHeartbeats 1600000
set_option maxRecDepth 10000
set_option linter.unusedVariables false
set_option linter.unusedSimpArgs false

/-! ### Tables and sets of one predicate -/
def gridP (n : Nat) (P : Nat → Nat → Bool) : List (List Bool) := (List.range n).map fun a => (List.range n).map fun b => P a b
def lineP (n : Nat) (P : Nat → Nat → Bool) (a : Nat) : List Bool := (List.range n).map fun b => P a b
/-- One place set. -/
def putP (P : Nat → Nat → Bool) (a b : Nat) (v : Bool) : Nat → Nat → Bool := fun x y => if x = a ∧ y = b then v else P x y
theorem gridP_len (n : Nat) (P : Nat → Nat → Bool) : (gridP n P).length = n := by simp [gridP]
theorem lineP_len (n : Nat) (P : Nat → Nat → Bool) (a : Nat) : (lineP n P a).length = n := by simp [lineP]
theorem gridP_get {n a : Nat} {P : Nat → Nat → Bool} (h : a < n) : (gridP n P)[a]? = some (lineP n P a) := by simp [gridP, lineP, h]
theorem lineP_get {n a b : Nat} {P : Nat → Nat → Bool} (h : b < n) : (lineP n P a)[b]? = some (P a b) := by simp [lineP, h]
theorem lineP_put {n a b : Nat} {P : Nat → Nat → Bool} {v : Bool} : (lineP n P a).set b v = lineP n (putP P a b v) a := by
  apply List.ext_getElem
  · simp [lineP]
  · intro y h1 h2
    rw [List.getElem_set]
    simp only [lineP, List.getElem_map, List.getElem_range, putP]
    by_cases e : b = y
    · subst e; simp
    · have : ¬ y = b := fun h => e h.symm
      simp [e, this]
theorem gridP_put {n a b : Nat} {P : Nat → Nat → Bool} {v : Bool} : (gridP n P).set a (lineP n (putP P a b v) a) = gridP n (putP P a b v) := by
  apply List.ext_getElem
  · simp [gridP]
  · intro x h1 h2
    rw [List.getElem_set]
    simp only [gridP, List.getElem_map, List.getElem_range]
    by_cases e : a = x
    · subst e; simp [lineP]
    · have : ¬ x = a := fun h => e h.symm
      simp [e, putP, this]
theorem gridP_ext {n : Nat} {P Q : Nat → Nat → Bool} (h : ∀ a, a < n → ∀ b, b < n → P a b = Q a b) : gridP n P = gridP n Q := by
  unfold gridP
  apply List.map_congr_left
  intro a ha
  apply List.map_congr_left
  intro b hb
  exact h a (by simpa using ha) b (by simpa using hb)
theorem relRows_ext {n : Nat} {P Q : Nat → Nat → Bool} (h : ∀ a, a < n → ∀ b, b < n → P a b = Q a b) : relRows n P = relRows n Q := by
  unfold relRows
  apply List.map_congr_left
  intro a ha
  congr 1
  apply List.filter_congr
  intro b hb
  exact h a (by simpa using ha) b (by simpa using hb)
theorem gridP_rows (n : Nat) (P : Nat → Nat → Bool) : (gridP n P).map lineN = relRows n P := by
  unfold gridP relRows
  rw [List.map_map]
  apply List.map_congr_left
  intro a ha
  simp only [Function.comp_apply, lineN, lineTo, List.length_map, List.length_range]
  congr 1
  apply List.filter_congr
  intro b hb
  have hb : b < n := by simpa using hb
  simp [List.getD_eq_getElem?_getD, hb]
theorem blank_gridP (n : Nat) : blank n n = gridP n (fun _ _ => false) := by
  unfold blank gridP
  apply List.ext_getElem
  · simp
  · intro a h1 h2
    simp only [List.getElem_map, List.getElem_range, List.getElem_replicate]
    apply List.ext_getElem
    · simp
    · intro b h3 h4
      simp

/-! ### Sets -/
def bitsP : Nat → (Nat → Bool) → Nat
  | 0, _ => 0
  | n + 1, p => bitsP n p ||| (if p n then 2 ^ n else 0)
theorem bitsP_bit (p : Nat → Bool) : ∀ (n i : Nat), (bitsP n p).testBit i = (decide (i < n) && p i)
  | 0, i => by simp [bitsP]
  | n + 1, i => by
    simp only [bitsP]
    rw [Nat.testBit_or, bitsP_bit p n i]
    by_cases e : i = n
    · subst e
      cases h : p i <;> simp [Nat.testBit_two_pow]
    · have h2 : decide (i < n + 1) = decide (i < n) := by rw [decide_eq_decide]; omega
      rw [h2]
      cases h : p n
      · simp
      · have : ¬ n = i := fun h => e h.symm
        simp [Nat.testBit_two_pow, this]
theorem bitsP_lt (p : Nat → Bool) : ∀ n, bitsP n p < 2 ^ n
  | 0 => by simp [bitsP]
  | n + 1 => by
    simp only [bitsP]
    have h := bitsP_lt p n
    have h2 : 2 ^ n < 2 ^ (n + 1) := Nat.pow_lt_pow_right (by omega) (by omega)
    refine Nat.or_lt_two_pow (by omega) ?_
    split <;> omega
theorem bitsP_64 {n : Nat} (p : Nat → Bool) (h : n ≤ 64) : bitsP n p < 2 ^ 64 := Nat.lt_of_lt_of_le (bitsP_lt p n) (Nat.pow_le_pow_right (by omega) h)
def setsP (n : Nat) (P : Nat → Nat → Bool) : List Nat := (List.range n).map fun a => bitsP n (P a)
theorem setsP_len (n : Nat) (P : Nat → Nat → Bool) : (setsP n P).length = n := by simp [setsP]
theorem setsP_get {n a : Nat} {P : Nat → Nat → Bool} (h : a < n) : (setsP n P)[a]? = some (bitsP n (P a)) := by simp [setsP, h]
theorem setsP_lt {n : Nat} {P : Nat → Nat → Bool} (h : n ≤ 64) : ∀ s ∈ setsP n P, s < 2 ^ 64 := by
  intro s hs
  unfold setsP at hs
  obtain ⟨a, _, rfl⟩ := List.mem_map.1 hs
  exact bitsP_64 _ h
/-- One row set. -/
def rowP (P : Nat → Nat → Bool) (a : Nat) (p : Nat → Bool) : Nat → Nat → Bool := fun x y => if x = a then p y else P x y
theorem setsP_set {n a : Nat} {P : Nat → Nat → Bool} {p : Nat → Bool} {s : Nat} (h : s = bitsP n p) : (setsP n P).set a s = setsP n (rowP P a p) := by
  subst h
  apply List.ext_getElem
  · simp [setsP]
  · intro x h1 h2
    rw [List.getElem_set]
    simp only [setsP, List.getElem_map, List.getElem_range]
    by_cases e : a = x
    · subst e
      rw [if_pos rfl]
      congr 1
      funext y
      simp [rowP]
    · have : ¬ x = a := fun h => e h.symm
      rw [if_neg e]
      congr 1
      funext y
      simp [rowP, this]
theorem bits_ext {n s : Nat} {p : Nat → Bool} (h : ∀ i, s.testBit i = (decide (i < n) && p i)) : s = bitsP n p := by
  apply Nat.eq_of_testBit_eq
  intro i
  rw [h, bitsP_bit]
theorem bitsP_or {n : Nat} {p q : Nat → Bool} : bitsP n p ||| bitsP n q = bitsP n fun y => p y || q y :=
  bits_ext fun i => by rw [Nat.testBit_or, bitsP_bit, bitsP_bit]; cases decide (i < n) <;> simp
theorem bitsP_and {n : Nat} {p q : Nat → Bool} : bitsP n p &&& bitsP n q = bitsP n fun y => p y && q y :=
  bits_ext fun i => by rw [Nat.testBit_and, bitsP_bit, bitsP_bit]; cases decide (i < n) <;> simp
theorem bitsP_less {n : Nat} {p q : Nat → Bool} (hn : n ≤ 64) : lessN (bitsP n p) (bitsP n q) = bitsP n fun y => p y && !q y := by
  refine bits_ext fun i => ?_
  by_cases hi : i < 64
  · rw [lessN_bit (bitsP_64 p hn) hi, bitsP_bit, bitsP_bit]
    cases decide (i < n) <;> simp
  · rw [Nat.testBit_lt_two_pow (Nat.lt_of_lt_of_le (lessN_lt _ _) (Nat.pow_le_pow_right (by omega) (by omega : 64 ≤ i)))]
    have : ¬ i < n := by omega
    simp [this]
theorem bitsP_add {n b : Nat} {p : Nat → Bool} (hb : b < n) : bitsP n p ||| 2 ^ b = bitsP n fun y => if y = b then true else p y :=
  bits_ext fun i => by
    rw [Nat.testBit_or, bitsP_bit, Nat.testBit_two_pow]
    by_cases e : i = b
    · subst e; simp [hb]
    · have : ¬ b = i := fun h => e h.symm
      simp [e, this]
theorem setsP_add {n a b : Nat} {P : Nat → Nat → Bool} (hb : b < n) : (setsP n P).set a (bitsP n (P a) ||| 2 ^ b) = setsP n (putP P a b true) := by
  rw [setsP_set (p := fun y => if y = b then true else P a y) (bitsP_add hb)]
  congr 1
  funext x y
  simp only [rowP, putP]
  by_cases e : x = a
  · subst e; simp
  · simp [e]
theorem setsP_rows {n : Nat} {P : Nat → Nat → Bool} (hn : n ≤ 40) : (setsP n P).map listN = relRows n P := by
  refine rows_of_sets (setsP_len n P) hn fun a ha b hb => ?_
  simp only [setsP, List.getElem_map, List.getElem_range]
  exact bitsP_bit _ _ _
theorem setsP_zero (n : Nat) : List.replicate n 0 = setsP n (fun _ _ => false) := by
  unfold setsP
  apply List.ext_getElem
  · simp
  · intro a h1 h2
    simp only [List.getElem_replicate, List.getElem_map]
    exact bits_ext fun i => by simp

/-- What valid rows say. -/
def relP (rows : List (List Int)) (a b : Nat) : Bool := decide ((b : Int) ∈ rows.getD a [])
theorem gridL_P (rows : List (List Int)) : gridL rows = gridP rows.length (relP rows) := by
  unfold gridL gridTo gridP
  apply List.map_congr_left
  intro a ha
  have ha : a < rows.length := by simpa using ha
  apply List.map_congr_left
  intro b hb
  rw [gLine_at ha (by simpa using hb)]
  simp [relP, List.getD_eq_getElem?_getD, ha]
theorem sets_P {n : Int} {rows : List (List Int)} (hr : RelIn n rows) : rows.map setN = setsP rows.length (relP rows) := by
  apply List.ext_getElem
  · simp [setsP]
  · intro a h1 h2
    have ha : a < rows.length := by simpa using h1
    simp only [List.getElem_map, setsP, List.getElem_range]
    refine bits_ext fun i => ?_
    have hin : inSize rows[a] := fun b hb => by have := hr.mem (List.getElem_mem ha) hb; omega
    rw [setN_bit hin]
    have hl := hr.len
    have : rows.getD a [] = rows[a] := by simp [List.getD_eq_getElem?_getD, ha]
    simp only [relP, this]
    by_cases hm : (i : Int) ∈ rows[a]
    · have := (hr.mem (List.getElem_mem ha) hm).2.1
      have hi : i < rows.length := by omega
      simp [hm, hi]
    · simp [hm]
/-- Valid rows are the rows of what they say. -/
theorem sorted_ext : ∀ {r s : List Int} {n : Int} {last : Int}, rowFrom n last r = true → rowFrom n last s = true → (∀ x, x ∈ r ↔ x ∈ s) → r = s
  | [], [], _, _, _, _, _ => rfl
  | [], y :: ys, _, _, _, _, h => by have := (h y).2 (by simp); simp at this
  | x :: xs, [], _, _, _, _, h => by have := (h x).1 (by simp); simp at this
  | x :: xs, y :: ys, n, last, h1, h2, h => by
    obtain ⟨a1, a2, a3⟩ := rowFrom_cons h1
    obtain ⟨b1, b2, b3⟩ := rowFrom_cons h2
    have hxy : x = y := by
      have hx := (h x).1 (by simp)
      have hy := (h y).2 (by simp)
      rcases List.mem_cons.1 hx with e | hx
      · exact e
      · rcases List.mem_cons.1 hy with e | hy
        · exact e.symm
        · have := (rowFrom_mem b3 x hx).1
          have := (rowFrom_mem a3 y hy).1
          omega
    subst hxy
    congr 1
    refine sorted_ext a3 b3 fun z => ?_
    constructor
    · intro hz
      rcases List.mem_cons.1 ((h z).1 (by simp [hz])) with e | hz'
      · have := (rowFrom_mem a3 z hz).1; omega
      · exact hz'
    · intro hz
      rcases List.mem_cons.1 ((h z).2 (by simp [hz])) with e | hz'
      · have := (rowFrom_mem b3 z hz).1; omega
      · exact hz'
theorem rowFrom_filter {n : Nat} {p : Nat → Bool} : ∀ (k : Nat) (m : Nat) (last : Int), k + m = n → last < k → rowFrom n last (List.map (fun i : Nat => (i : Int)) (List.filter p (List.range' k m))) = true
  | k, 0, last, _, _ => by simp [rowFrom]
  | k, m + 1, last, h, hl => by
    rw [List.range'_succ]
    simp only [List.filter_cons]
    split
    · simp only [List.map_cons, rowFrom]
      rw [show leI (k : Int) last = false by rw [leI_f]; omega, show leI (n : Int) (k : Int) = false by rw [leI_f]; omega]
      exact rowFrom_filter (k + 1) m k (by omega) (by omega)
    · exact rowFrom_filter (k + 1) m last (by omega) (by omega)
theorem relRows_in {n : Nat} {P : Nat → Nat → Bool} (hn : n ≤ 40) : RelIn n (relRows n P) := by
  refine ⟨by omega, by omega, by rw [relRows_len], fun r hr => ?_⟩
  unfold relRows at hr
  obtain ⟨a, _, rfl⟩ := List.mem_map.1 hr
  rw [List.range_eq_range']
  exact rowFrom_filter 0 n (-1) (by omega) (by omega)
theorem relRows_mem {n a b : Nat} {P : Nat → Nat → Bool} (ha : a < n) : (b : Int) ∈ (relRows n P).getD a [] ↔ b < n ∧ P a b = true := by
  have : (relRows n P).getD a [] = List.map (fun i : Nat => (i : Int)) (List.filter (fun b : Nat => P a b) (List.range n)) := by
    simp [relRows, List.getD_eq_getElem?_getD, ha]
  rw [this]
  simp only [List.mem_map, List.mem_filter, List.mem_range]
  constructor
  · rintro ⟨i, h, e⟩
    have : i = b := by omega
    subst this; exact h
  · intro h; exact ⟨b, h, rfl⟩
theorem relP_relRows {n : Nat} {P : Nat → Nat → Bool} {a b : Nat} (ha : a < n) (hb : b < n) : relP (relRows n P) a b = P a b := by
  unfold relP
  cases h : P a b
  · rw [decide_eq_false_iff_not, relRows_mem ha]; simp [h]
  · rw [decide_eq_true_iff, relRows_mem ha]; exact ⟨hb, h⟩
theorem rows_eq {n : Nat} {rows : List (List Int)} (hr : RelIn n rows) : rows = relRows n (relP rows) := by
  have hl := hr.len
  have hh := hr.hi
  apply List.ext_getElem
  · rw [relRows_len]; omega
  · intro a h1 h2
    have ha : a < n := by omega
    have hq := relRows_in (n := n) (P := relP rows) (by omega)
    refine sorted_ext (hr.row _ (List.getElem_mem h1)) (hq.row _ (List.getElem_mem h2)) fun x => ?_
    have e1 : rows.getD a [] = rows[a] := by simp [List.getD_eq_getElem?_getD, h1]
    have e2 : (relRows n (relP rows)).getD a [] = (relRows n (relP rows))[a] := by simp [List.getD_eq_getElem?_getD, h2]
    constructor
    · intro hx
      obtain ⟨x0, x1, _⟩ := hr.mem (List.getElem_mem h1) hx
      obtain ⟨y, rfl⟩ : ∃ y : Nat, x = (y : Int) := ⟨x.toNat, by omega⟩
      rw [← e2, relRows_mem ha]
      exact ⟨by omega, by unfold relP; rw [e1]; simpa using hx⟩
    · intro hx
      obtain ⟨x0, x1, _⟩ := hq.mem (List.getElem_mem h2) hx
      obtain ⟨y, rfl⟩ : ∃ y : Nat, x = (y : Int) := ⟨x.toNat, by omega⟩
      rw [← e2, relRows_mem ha] at hx
      have := hx.2
      unfold relP at this
      rw [e1] at this
      simpa using this

/-! ### Rounds -/
def iter {σ : Type} (f : Nat → σ → σ) : Nat → σ → σ
  | 0, s => s
  | k + 1, s => f k (iter f k s)
end Go.Proofs.Ytpfipmjmblgjfaa

namespace Go.Proofs.Ytpfipmjmblgjfaa
open Go.Lg
set_option maxHeartbeats 1600000
set_option maxRecDepth 10000
set_option linter.unusedVariables false
set_option linter.unusedSimpArgs false

theorem RelIn.size {n : Int} {rows : List (List Int)} (h : RelIn n rows) : rows.length ≤ 40 := by have := h.len; have := h.hi; omega
theorem RelIn.ins {n : Int} {rows : List (List Int)} (h : RelIn n rows) : ∀ r ∈ rows, inSize r ∧ r.length ≤ Go.maxLen := fun r hr =>
  ⟨fun b hb => by have := h.mem hr hb; omega, by have := h.rlen hr; unfold Go.maxLen; omega⟩
theorem alike_in {n : Int} {rows : List (List Int)} {m : Int} {rows' : List (List Int)} (h : alike n rows m rows' = true) : RelIn n rows ∧ RelIn n rows' ∧ n = m ∧ rows'.length = rows.length := by
  unfold alike at h
  simp only [Bool.and_eq_true, eqI_t] at h
  obtain ⟨⟨rfl, h1⟩, h2⟩ := h
  have a := relIn_of h1
  have b := relIn_of h2
  exact ⟨a, b, rfl, by have := a.len; have := b.len; omega⟩

/-- What is combined, row by row. -/
def mixP (f : Bool → Bool → Bool) (P Q : Nat → Nat → Bool) (k : Nat) : Nat → Nat → Bool := fun a b => if a < k then f (P a b) (Q a b) else P a b
def allP (f : Bool → Bool → Bool) (P Q : Nat → Nat → Bool) : Nat → Nat → Bool := fun a b => f (P a b) (Q a b)
theorem mixP_set {f : Bool → Bool → Bool} {P Q : Nat → Nat → Bool} {n k : Nat} : (setsP n (mixP f P Q k)).set k (bitsP n fun b => f (P k b) (Q k b)) = setsP n (mixP f P Q (k + 1)) := by
  rw [setsP_set rfl]
  congr 1
  funext a b
  simp only [rowP, mixP]
  by_cases e : a = k
  · subst e; simp
  · rw [if_neg e]
    have : (a < k + 1) ↔ a < k := by omega
    simp only [this]
theorem mixP_row {f : Bool → Bool → Bool} {P Q : Nat → Nat → Bool} {k : Nat} : mixP f P Q k k = P k := by funext b; simp [mixP]
theorem mixP_zero {f : Bool → Bool → Bool} {P Q : Nat → Nat → Bool} : mixP f P Q 0 = P := by funext a b; simp [mixP]
theorem mixP_all {f : Bool → Bool → Bool} {P Q : Nat → Nat → Bool} {n : Nat} : relRows n (mixP f P Q n) = relRows n (allP f P Q) := relRows_ext fun a ha b _ => by simp [mixP, allP, ha]

/-- How many rows the result has. -/
def rsN (ok : Bool) (rows : List (List Int)) : Nat := match ok with | true => rows.length | false => 0
theorem relRows_zero (P : Nat → Nat → Bool) : relRows 0 P = [] := rfl

end Go.Proofs.Ytpfipmjmblgjfaa
namespace Go.Proofs.Ytpfipmjmblgjfaa
open Go.Lg
set_option maxHeartbeats 1600000
set_option maxRecDepth 10000
set_option linter.unusedVariables false
set_option linter.unusedSimpArgs false

def idP (k : Nat) : Nat → Nat → Bool := fun a b => decide (a = b ∧ a < k)
theorem idP_put (k : Nat) : putP (idP k) k k true = idP (k + 1) := by
  funext a b
  simp only [putP, idP]
  by_cases e : a = k ∧ b = k
  · obtain ⟨rfl, rfl⟩ := e; simp
  · rw [if_neg e, decide_eq_decide]
    constructor
    · rintro ⟨rfl, h⟩; exact ⟨rfl, by omega⟩
    · rintro ⟨rfl, h⟩; exact ⟨rfl, by omega⟩
theorem idP_zero : idP 0 = fun _ _ => false := by funext a b; simp [idP]
def sizN (n : Int) : Nat := empN n
theorem gAt_succ {rows : List (List Int)} {k i b : Nat} (hk : k < rows.length) (hi : i < rows[k].length) (hb : rows[k][i] = (b : Int)) (x y : Nat) : gAt rows k (i + 1) x y = if x = k ∧ y = b then true else gAt rows k i x y := by
  have hg : rows.getD k [] = rows[k] := by simp [List.getD_eq_getElem?_getD, hk]
  unfold gAt
  rw [hg, List.take_succ_eq_append_getElem hi, List.getD_eq_getElem?_getD]
  simp only [List.mem_append, List.mem_singleton, hb]
  by_cases e : x = k ∧ y = b
  · obtain ⟨rfl, rfl⟩ := e; simp
  · rw [if_neg e, decide_eq_decide]
    have : ¬ (x = k ∧ (y : Int) = (b : Int)) := fun h => e ⟨h.1, by omega⟩
    constructor
    · rintro (h | ⟨h1, h2 | h2⟩)
      · exact .inl h
      · exact .inr ⟨h1, h2⟩
      · exact absurd ⟨h1, h2⟩ this
    · rintro (h | ⟨h1, h2⟩)
      · exact .inl h
      · exact .inr ⟨h1, .inl h2⟩
theorem gAt_row {rows : List (List Int)} {k : Nat} (hk : k < rows.length) (x y : Nat) : gAt rows k rows[k].length x y = gAt rows (k + 1) 0 x y := by
  have hg : rows.getD k [] = rows[k] := by simp [List.getD_eq_getElem?_getD, hk]
  unfold gAt
  rw [hg, List.take_length, decide_eq_decide]
  constructor
  · rintro (⟨h1, h2⟩ | ⟨h1, h2⟩)
    · exact .inl ⟨by omega, h2⟩
    · subst h1; exact .inl ⟨by omega, by rw [hg]; exact h2⟩
  · rintro (⟨h1, h2⟩ | ⟨h1, h2⟩)
    · by_cases e : x = k
      · subst e; rw [hg] at h2; exact .inr ⟨rfl, h2⟩
      · exact .inl ⟨by omega, h2⟩
    · simp at h2
theorem gAt_zero (rows : List (List Int)) (x y : Nat) : gAt rows 0 0 x y = false := by simp [gAt]
theorem gAt_all {rows : List (List Int)} {x : Nat} (hx : x < rows.length) (y : Nat) : gAt rows rows.length 0 x y = relP rows x y := by
  unfold gAt relP
  rw [decide_eq_decide]
  simp [hx]
/-- Turned round: what has been set when k rows are done, and i numbers of the next. -/
def cvP (rows : List (List Int)) (k i : Nat) : Nat → Nat → Bool := fun x y => gAt rows k i y x
def convP (rows : List (List Int)) : Nat → Nat → Bool := fun x y => relP rows y x
theorem cvP_put {rows : List (List Int)} {k i b : Nat} (hk : k < rows.length) (hi : i < rows[k].length) (hb : rows[k][i] = (b : Int)) : putP (cvP rows k i) b k true = cvP rows k (i + 1) := by
  funext x y
  simp only [putP, cvP]
  rw [gAt_succ hk hi hb]
  simp only [and_comm]
theorem cvP_row {rows : List (List Int)} {k : Nat} (hk : k < rows.length) : cvP rows k rows[k].length = cvP rows (k + 1) 0 := by funext x y; exact gAt_row hk y x
theorem cvP_zero (rows : List (List Int)) : cvP rows 0 0 = fun _ _ => false := by funext x y; exact gAt_zero rows y x
theorem cvP_all (rows : List (List Int)) : relRows rows.length (cvP rows rows.length 0) = relRows rows.length (convP rows) := relRows_ext fun a _ b hb => gAt_all hb a

end Go.Proofs.Ytpfipmjmblgjfaa
namespace Go.Proofs.Ytpfipmjmblgjfaa
open Go.Lg
set_option maxHeartbeats 1600000
set_option maxRecDepth 10000
set_option linter.unusedVariables false
set_option linter.unusedSimpArgs false

/-! ### The closure, by rows and place by place -/
def stepRow (k a : Nat) (P : Nat → Nat → Bool) : Nat → Nat → Bool := match P a k with | true => rowP P a (fun y => P a y || P k y) | false => P
def stepCell (k a b : Nat) (P : Nat → Nat → Bool) : Nat → Nat → Bool := match P a k && P k b with | true => putP P a b true | false => P
def roundR (N k : Nat) (P : Nat → Nat → Bool) : Nat → Nat → Bool := iter (stepRow k) N P
def roundC (N k : Nat) (P : Nat → Nat → Bool) : Nat → Nat → Bool := iter (fun a P => iter (stepCell k a) N P) N P
def viaP (k : Nat) (P : Nat → Nat → Bool) : Nat → Nat → Bool := fun a b => P a b || (P a k && P k b)
def closP (N : Nat) (P : Nat → Nat → Bool) : Nat → Nat → Bool := iter viaP N P

theorem iter_row (k : Nat) (P : Nat → Nat → Bool) : ∀ i, iter (stepRow k) i P = fun a b => if a < i then viaP k P a b else P a b
  | 0 => by funext a b; simp [iter]
  | i + 1 => by
    simp only [iter]
    rw [iter_row k P i]
    have hik : (if i < i then viaP k P i k else P i k) = P i k := by simp
    have hk : ∀ b, (if k < i then (P k b || (P k k && P k b)) else P k b) = P k b := fun b => by split <;> cases P k b <;> simp
    funext a b
    simp only [stepRow, hik]
    cases h : P i k
    · simp only []
      by_cases e : a = i
      · subst e; simp [viaP, h]
      · have : (a < i + 1) ↔ a < i := by omega
        simp only [this]
    · simp only [rowP]
      by_cases e : a = i
      · subst e; simp [viaP, h, hk]
      · have : (a < i + 1) ↔ a < i := by omega
        rw [if_neg e]
        simp only [this]
theorem stepCell_of {k a b : Nat} {P' P : Nat → Nat → Bool} (h1 : P' a k = P a k) (h2 : P' k b = P k b) : stepCell k a b P' = match P a k && P k b with | true => putP P' a b true | false => P' := by
  unfold stepCell; rw [h1, h2]
theorem iter_cell (k a : Nat) (P : Nat → Nat → Bool) : ∀ i, iter (stepCell k a) i P = fun x y => if x = a ∧ y < i then viaP k P x y else P x y
  | 0 => by funext x y; simp [iter]
  | i + 1 => by
    simp only [iter]
    rw [iter_cell k a P i]
    rw [stepCell_of (P := P) (by split <;> simp only [viaP] <;> cases P a k <;> simp) (by simp)]
    funext x y
    cases h : (P a k && P k i)
    · show (if x = a ∧ y < i then viaP k P x y else P x y) = _
      by_cases e : x = a ∧ y = i
      · obtain ⟨rfl, rfl⟩ := e; simp [viaP, h]
      · have : (x = a ∧ y < i + 1) ↔ (x = a ∧ y < i) := by
          constructor
          · rintro ⟨h1, h2⟩; exact ⟨h1, by rcases Nat.lt_or_ge y i with h | h; exact h; exact absurd ⟨h1, by omega⟩ e⟩
          · rintro ⟨h1, h2⟩; exact ⟨h1, by omega⟩
        simp only [this]
    · show (if x = a ∧ y = i then true else (if x = a ∧ y < i then viaP k P x y else P x y)) = _
      by_cases e : x = a ∧ y = i
      · obtain ⟨rfl, rfl⟩ := e; simp [viaP, h]
      · have : (x = a ∧ y < i + 1) ↔ (x = a ∧ y < i) := by
          constructor
          · rintro ⟨h1, h2⟩; exact ⟨h1, by rcases Nat.lt_or_ge y i with h | h; exact h; exact absurd ⟨h1, by omega⟩ e⟩
          · rintro ⟨h1, h2⟩; exact ⟨h1, by omega⟩
        rw [if_neg e]
        simp only [this]
theorem iter_cells (k N : Nat) (P : Nat → Nat → Bool) (hk : k < N) : ∀ j, iter (fun a P => iter (stepCell k a) N P) j P = fun x y => if x < j ∧ y < N then viaP k P x y else P x y
  | 0 => by funext x y; simp [iter]
  | j + 1 => by
    simp only [iter]
    rw [iter_cells k N P hk j, iter_cell]
    funext x y
    by_cases e : x = j ∧ y < N
    · obtain ⟨rfl, hy⟩ := e
      rw [if_pos ⟨rfl, hy⟩, if_pos ⟨by omega, hy⟩]
      simp only [viaP]
      have h1 : (if x < x ∧ y < N then P x y || (P x k && P k y) else P x y) = P x y := by simp
      have h2 : (if x < x ∧ k < N then P x k || (P x k && P k k) else P x k) = P x k := by simp
      have h3 : (if k < x ∧ y < N then P k y || (P k k && P k y) else P k y) = P k y := by split <;> simp
      rw [h1, h2, h3]
    · rw [if_neg e]
      have : (x < j + 1 ∧ y < N) ↔ (x < j ∧ y < N) := by
        constructor
        · rintro ⟨h1, h2⟩; exact ⟨by rcases Nat.lt_or_ge x j with h | h; exact h; exact absurd ⟨by omega, h2⟩ e, h2⟩
        · rintro ⟨h1, h2⟩; exact ⟨by omega, h2⟩
      simp only [this]
def sameP (N : Nat) (P Q : Nat → Nat → Bool) : Prop := ∀ a, a < N → ∀ b, b < N → P a b = Q a b
theorem closR (N : Nat) (P : Nat → Nat → Bool) : ∀ k, k ≤ N → sameP N (iter (roundR N) k P) (iter viaP k P)
  | 0, _ => fun a _ b _ => rfl
  | k + 1, h => fun a ha b hb => by
    have ih := closR N P k (by omega)
    simp only [iter, roundR, iter_row, viaP]
    rw [if_pos ha, ih a ha b hb, ih a ha k (by omega), ih k (by omega) b hb]
theorem closC (N : Nat) (P : Nat → Nat → Bool) : ∀ k, k ≤ N → sameP N (iter (roundC N) k P) (iter viaP k P)
  | 0, _ => fun a _ b _ => rfl
  | k + 1, h => fun a ha b hb => by
    have ih := closC N P k (by omega)
    simp only [iter, roundC]
    rw [iter_cells k N _ (by omega)]
    simp only [viaP]
    rw [if_pos ⟨ha, hb⟩, ih a ha b hb, ih a ha k (by omega), ih k (by omega) b hb]

theorem bitsP_has {N k : Nat} {p : Nat → Bool} (hk : k < N) : hasN (bitsP N p) (k : Int) = p k := by
  unfold hasN
  rw [Int.toNat_natCast, bitsP_bit]; simp [hk]
theorem stepRow_sets {N k a : Nat} {P : Nat → Nat → Bool} (h : P a k = true) : (setsP N P).set a (bitsP N (P a) ||| bitsP N (P k)) = setsP N (stepRow k a P) := by
  rw [setsP_set bitsP_or]
  simp only [stepRow, h]

end Go.Proofs.Ytpfipmjmblgjfaa
namespace Go.Proofs.Ytpfipmjmblgjfaa
open Go.Lg
set_option maxHeartbeats 1600000
set_option maxRecDepth 10000
set_option linter.unusedVariables false
set_option linter.unusedSimpArgs false

/-! ### Composition -/
/-- What is reached from a set over the rows of Q. -/
def onP (N : Nat) (p : Nat → Bool) (Q : Nat → Nat → Bool) : Nat → Bool := fun c => decide (∃ b, b < N ∧ p b = true ∧ Q b c = true)
def compP (N : Nat) (P Q : Nat → Nat → Bool) : Nat → Nat → Bool := fun a c => onP N (P a) Q c
def inTake (r : List Int) (i : Nat) : Nat → Bool := fun b => decide ((b : Int) ∈ r.take i)
theorem onP_succ {N : Nat} {r : List Int} {i b : Nat} {Q : Nat → Nat → Bool} (hi : i < r.length) (hb : r[i] = (b : Int)) (hbN : b < N) : (fun c => onP N (inTake r i) Q c || Q b c) = onP N (inTake r (i + 1)) Q := by
  funext c
  unfold onP inTake
  rw [List.take_succ_eq_append_getElem hi]
  rw [Bool.eq_iff_iff]
  simp only [Bool.or_eq_true, decide_eq_true_eq, List.mem_append, List.mem_singleton, hb]
  constructor
  · rintro (⟨b', h1, h2, h3⟩ | h)
    · exact ⟨b', h1, .inl h2, h3⟩
    · exact ⟨b, hbN, .inr rfl, h⟩
  · rintro ⟨b', h1, h2 | h2, h3⟩
    · exact .inl ⟨b', h1, h2, h3⟩
    · have : b' = b := by omega
      subst this; exact .inr h3
theorem onP_zero {N : Nat} {r : List Int} {Q : Nat → Nat → Bool} : onP N (inTake r 0) Q = fun _ => false := by funext c; simp [onP, inTake]

theorem comp_rows {n : Int} {rows : List (List Int)} (hr : RelIn n rows) (Q : Nat → Nat → Bool) : (rows.map fun r => bitsP rows.length (onP rows.length (inTake r r.length) Q)) = setsP rows.length (compP rows.length (relP rows) Q) := by
  apply List.ext_getElem
  · simp [setsP]
  · intro a h1 h2
    have ha : a < rows.length := by simpa using h1
    simp only [List.getElem_map, setsP, List.getElem_range]
    congr 1
    funext c
    unfold compP onP inTake relP
    have : rows.getD a [] = rows[a] := by simp [List.getD_eq_getElem?_getD, ha]
    rw [this, List.take_length]

end Go.Proofs.Ytpfipmjmblgjfaa
namespace Go.Proofs.Ytpfipmjmblgjfaa
open Go.Lg
set_option maxHeartbeats 1600000
set_option maxRecDepth 10000
set_option linter.unusedVariables false
set_option linter.unusedSimpArgs false

theorem lines_get {N a : Nat} {P : Nat → Nat → Bool} (h : a < N) : ((gridP N P).map lineOw)[a]? = some (lineOw (lineP N P a)) := by rw [List.getElem?_map, gridP_get h]; rfl
theorem linesS_get {N a : Nat} {P : Nat → Nat → Bool} (h : a < N) : ((gridP N P).map lineSl)[a]? = some (lineSl (lineP N P a)) := by rw [List.getElem?_map, gridP_get h]; rfl
theorem cell_get {N a b : Nat} {P : Nat → Nat → Bool} (h : b < N) : ((lineP N P a).map bLV)[b]? = some (.bool (P a b)) := by rw [List.getElem?_map, lineP_get h]; rfl
theorem lines_len {N : Nat} {P : Nat → Nat → Bool} : ((gridP N P).map lineOw).length = N := by rw [List.length_map, gridP_len]
theorem linesS_len {N : Nat} {P : Nat → Nat → Bool} : ((gridP N P).map lineSl).length = N := by rw [List.length_map, gridP_len]
theorem cells_len {N a : Nat} {P : Nat → Nat → Bool} : ((lineP N P a).map bLV).length = N := by rw [List.length_map, lineP_len]
theorem lines_put {N a b : Nat} {P : Nat → Nat → Bool} {v : Bool} : ((gridP N P).map lineOw).set a (lineOw (lineP N (putP P a b v) a)) = (gridP N (putP P a b v)).map lineOw := by rw [← gridP_put, List.map_set]
theorem lines_same {N a : Nat} {P : Nat → Nat → Bool} : ((gridP N P).map lineOw).set a (lineOw (lineP N P a)) = (gridP N P).map lineOw := by
  apply List.ext_getElem?
  intro i
  rw [List.getElem?_set]
  split
  · rename_i e; subst e
    split
    · rename_i h; rw [lines_len] at h; rw [lines_get h]
    · rename_i h; rw [List.getElem?_eq_none (by omega)]
  · rfl
theorem cells_put {N a b : Nat} {P : Nat → Nat → Bool} {v : Bool} : ((lineP N P a).map bLV).set b (.bool v) = (lineP N (putP P a b v) a).map bLV := by
  rw [← lineP_put, List.map_set]; rfl

end Go.Proofs.Ytpfipmjmblgjfaa
namespace Go.Proofs.Ytpfipmjmblgjfaa
open Go.Lg
set_option maxHeartbeats 1600000
set_option maxRecDepth 10000
set_option linter.unusedVariables false
set_option linter.unusedSimpArgs false

/-! ### Composition place by place -/
def cellC (P Q : Nat → Nat → Bool) (a b c : Nat) (R : Nat → Nat → Bool) : Nat → Nat → Bool := match P a b && Q b c with | true => putP R a c true | false => R
def compR (N : Nat) (P Q : Nat → Nat → Bool) : Nat → Nat → Bool := iter (fun a R => iter (fun b R => iter (cellC P Q a b) N R) N R) N (fun _ _ => false)
theorem iter_cellC (P Q R : Nat → Nat → Bool) (a b : Nat) : ∀ i, iter (cellC P Q a b) i R = fun x y => R x y || (decide (x = a ∧ y < i) && (P a b && Q b y))
  | 0 => by funext x y; simp [iter]
  | i + 1 => by
    simp only [iter]
    rw [iter_cellC P Q R a b i]
    funext x y
    unfold cellC
    cases h : (P a b && Q b i)
    · show (R x y || (decide (x = a ∧ y < i) && (P a b && Q b y))) = _
      congr 1
      by_cases e : x = a ∧ y = i
      · obtain ⟨rfl, rfl⟩ := e; simp only [h]; simp
      · have : (x = a ∧ y < i + 1) ↔ (x = a ∧ y < i) := by
          constructor
          · rintro ⟨h1, h2⟩; exact ⟨h1, by rcases Nat.lt_or_ge y i with h | h; exact h; exact absurd ⟨h1, by omega⟩ e⟩
          · rintro ⟨h1, h2⟩; exact ⟨h1, by omega⟩
        simp only [this]
    · show (if x = a ∧ y = i then true else (R x y || (decide (x = a ∧ y < i) && (P a b && Q b y)))) = _
      by_cases e : x = a ∧ y = i
      · obtain ⟨rfl, rfl⟩ := e; rw [if_pos ⟨rfl, rfl⟩, h]; simp
      · rw [if_neg e]
        have : (x = a ∧ y < i + 1) ↔ (x = a ∧ y < i) := by
          constructor
          · rintro ⟨h1, h2⟩; exact ⟨h1, by rcases Nat.lt_or_ge y i with h | h; exact h; exact absurd ⟨h1, by omega⟩ e⟩
          · rintro ⟨h1, h2⟩; exact ⟨h1, by omega⟩
        simp only [this]
theorem iter_cellB (N : Nat) (P Q R : Nat → Nat → Bool) (a : Nat) : ∀ j, iter (fun b R => iter (cellC P Q a b) N R) j R = fun x y => R x y || (decide (x = a ∧ y < N) && decide (∃ b, b < j ∧ P a b = true ∧ Q b y = true))
  | 0 => by funext x y; simp [iter]
  | j + 1 => by
    simp only [iter]
    rw [iter_cellB N P Q R a j, iter_cellC]
    funext x y
    rw [Bool.or_assoc]
    congr 1
    rw [Bool.eq_iff_iff]
    simp only [Bool.or_eq_true, Bool.and_eq_true, decide_eq_true_eq]
    constructor
    · rintro (⟨h1, b, h2, h3⟩ | ⟨h1, h2⟩)
      · exact ⟨h1, b, by omega, h3⟩
      · exact ⟨h1, j, by omega, h2⟩
    · rintro ⟨h1, b, h2, h3⟩
      rcases Nat.lt_or_ge b j with h | h
      · exact .inl ⟨h1, b, h, h3⟩
      · have : b = j := by omega
        subst this; exact .inr ⟨h1, h3⟩
theorem iter_cellA (N : Nat) (P Q : Nat → Nat → Bool) : ∀ k, iter (fun a R => iter (fun b R => iter (cellC P Q a b) N R) N R) k (fun _ _ => false) = fun x y => decide (x < k ∧ y < N) && compP N P Q x y
  | 0 => by funext x y; simp [iter]
  | k + 1 => by
    simp only [iter]
    rw [iter_cellA N P Q k, iter_cellB]
    funext x y
    unfold compP onP
    rw [Bool.eq_iff_iff]
    simp only [Bool.or_eq_true, Bool.and_eq_true, decide_eq_true_eq]
    constructor
    · rintro (⟨⟨h1, h2⟩, h3⟩ | ⟨⟨rfl, h2⟩, h3⟩)
      · exact ⟨⟨by omega, h2⟩, h3⟩
      · exact ⟨⟨by omega, h2⟩, h3⟩
    · rintro ⟨⟨h1, h2⟩, h3⟩
      rcases Nat.lt_or_ge x k with h | h
      · exact .inl ⟨⟨h, h2⟩, h3⟩
      · have : x = k := by omega
        subst this; exact .inr ⟨⟨rfl, h2⟩, h3⟩
theorem compR_rows (N : Nat) (P Q : Nat → Nat → Bool) : gridP N (compR N P Q) = gridP N (compP N P Q) := gridP_ext fun a ha b hb => by
  unfold compR
  rw [iter_cellA]
  simp [ha, hb]

end Go.Proofs.Ytpfipmjmblgjfaa
namespace Go.Proofs.Ytpfipmjmblgjfaa
open Go.Lg
set_option maxHeartbeats 1600000
set_option maxRecDepth 10000
set_option linter.unusedVariables false
set_option linter.unusedSimpArgs false

/-- Combined place by place: those before (k, i) are done. -/
def mxP (f : Bool → Bool → Bool) (P Q : Nat → Nat → Bool) (k i : Nat) : Nat → Nat → Bool := fun a b => if a < k ∨ (a = k ∧ b < i) then f (P a b) (Q a b) else P a b
theorem mxP_zero {f : Bool → Bool → Bool} {P Q : Nat → Nat → Bool} : mxP f P Q 0 0 = P := by funext a b; simp [mxP]
theorem mxP_put {f : Bool → Bool → Bool} {P Q : Nat → Nat → Bool} {k i : Nat} : putP (mxP f P Q k i) k i (f (P k i) (Q k i)) = mxP f P Q k (i + 1) := by
  funext a b
  simp only [putP, mxP]
  by_cases e : a = k ∧ b = i
  · obtain ⟨rfl, rfl⟩ := e; simp
  · rw [if_neg e]
    have : (a < k ∨ (a = k ∧ b < i)) ↔ (a < k ∨ (a = k ∧ b < i + 1)) := by
      constructor
      · rintro (h | ⟨h, h'⟩)
        · exact .inl h
        · exact .inr ⟨h, by omega⟩
      · rintro (h | ⟨h, h'⟩)
        · exact .inl h
        · exact .inr ⟨h, by rcases Nat.lt_or_ge b i with h2 | h2; exact h2; exact absurd ⟨h, by omega⟩ e⟩
    simp only [this]
theorem mxP_at {f : Bool → Bool → Bool} {P Q : Nat → Nat → Bool} {k i : Nat} : mxP f P Q k i k i = P k i := by simp [mxP]
theorem mxP_row {f : Bool → Bool → Bool} {P Q : Nat → Nat → Bool} {N k : Nat} : gridP N (mxP f P Q k N) = gridP N (mxP f P Q (k + 1) 0) := gridP_ext fun a _ b hb => by
  simp only [mxP]
  have : (a < k ∨ (a = k ∧ b < N)) ↔ (a < k + 1 ∨ (a = k + 1 ∧ b < 0)) := by omega
  simp only [this]
theorem mxP_all {f : Bool → Bool → Bool} {P Q : Nat → Nat → Bool} {N : Nat} : relRows N (mxP f P Q N 0) = relRows N (allP f P Q) := relRows_ext fun a ha b _ => by simp [mxP, allP, ha]

theorem mx_cells {f : Bool → Bool → Bool} {P Q : Nat → Nat → Bool} {N k i : Nat} {v : Bool} (ev : f (P k i) (Q k i) = v) : ((lineP N (mxP f P Q k i) k).map bLV).set i (.bool v) = (lineP N (mxP f P Q k (i + 1)) k).map bLV := by
  subst ev
  rw [← mxP_put]; exact cells_put
end Go.Proofs.Ytpfipmjmblgjfaa
namespace Go.Proofs.Ytpfipmjmblgjfaa
open Go.Lg
set_option maxHeartbeats 1600000
set_option maxRecDepth 10000
set_option linter.unusedVariables false
set_option linter.unusedSimpArgs false

end Go.Proofs.Ytpfipmjmblgjfaa
namespace Go.Proofs.Ytpfipmjmblgjfaa
open Go.Lg
set_option maxHeartbeats 1600000
set_option maxRecDepth 10000
set_option linter.unusedVariables false
set_option linter.unusedSimpArgs false

theorem prTo_end (rows : List (List Int)) : prTo rows rows.length 0 = prFrom 0 rows := by rw [prTo_zero, List.take_length]

end Go.Proofs.Ytpfipmjmblgjfaa
namespace Go.Proofs.Ytpfipmjmblgjfaa
open Go.Lg
set_option maxHeartbeats 1600000
set_option maxRecDepth 10000
set_option linter.unusedVariables false
set_option linter.unusedSimpArgs false

end Go.Proofs.Ytpfipmjmblgjfaa
namespace Go.Proofs.Ytpfipmjmblgjfaa
open Go.Lg
set_option maxHeartbeats 1600000
set_option maxRecDepth 10000
set_option linter.unusedVariables false
set_option linter.unusedSimpArgs false

/-! A row whose element i is written field by field. -/
section
variable {L : List LV} {i : Nat}
theorem fw_get (h : i < L.length) (fs : List LV) : getP (.st (L.set i (.st fs))) [i] = some (.st fs) := by simp [getP, h]
theorem fw_get2 (h : i < L.length) {fs : List LV} {f : Nat} {x : LV} (hx : fs[f]? = some x) : getP (.st (L.set i (.st fs))) [i, f] = some x := by simp [getP, h, hx]
theorem fw_set (h : i < L.length) {fs : List LV} {f : Nat} {x : LV} (hx : fs[f]? = some x) (v : LV) :
    (match (L.set i (.st fs))[i]? with | some z => (L.set i (.st fs)).set i (setP z [f] v) | none => L.set i (.st fs)) = L.set i (.st (fs.set f v)) := by
  have : (L.set i (.st fs))[i]? = some (.st fs) := by simp [h]
  rw [this]
  simp only [setP, hx]
  cases x <;> simp [List.set_set]
theorem fw_self (h : i < L.length) {fs : List LV} (hx : L[i]? = some (.st fs)) : L = L.set i (.st fs) := by
  apply List.ext_getElem?
  intro j
  rw [List.getElem?_set]
  split
  · rename_i e; subst e; exact hx
  · rfl
end

def markPer (k : Nat) : Per := ⟨mText k, (k : Int) + 1, (k : Int) + 2, (k : Int) + 3, (k : Int) + 4, (k : Int) + 5⟩
def markPers (k : Nat) : Nat → List Per
  | 0 => []
  | n + 1 => markPers k n ++ [markPer (k + 6 * n)]
theorem markPers_len (k : Nat) : ∀ n, (markPers k n).length = n
  | 0 => rfl
  | n + 1 => by simp [markPers, markPers_len k n]
def rowPM (k : Nat) (ps : List Per) (i : Nat) : List LV := (markPers k i ++ ps.drop i).map Per.lv
theorem rowPM_len {k : Nat} {ps : List Per} {i : Nat} (h : i ≤ ps.length) : (rowPM k ps i).length = ps.length := by simp [rowPM, markPers_len]; omega
theorem rowPM_get {k : Nat} {ps : List Per} {i : Nat} (h : i < ps.length) : (rowPM k ps i)[i]? = some ps[i].lv := by
  unfold rowPM
  rw [List.getElem?_map, List.getElem?_append_right (by rw [markPers_len]; exact Nat.le_refl _), markPers_len, Nat.sub_self, List.getElem?_drop, Nat.add_zero, List.getElem?_eq_getElem h]
  rfl
theorem rowPM_set {k : Nat} {ps : List Per} {i : Nat} (h : i < ps.length) : (rowPM k ps i).set i (markPer (k + 6 * i)).lv = rowPM k ps (i + 1) := by
  unfold rowPM
  rw [List.drop_eq_getElem_cons h, List.map_append, List.map_cons, List.set_append_right _ _ (by simp [markPers_len])]
  simp [markPers, markPers_len]

end Go.Proofs.Ytpfipmjmblgjfaa
namespace Go.Proofs.Ytpfipmjmblgjfaa
open Go.Lg
set_option maxHeartbeats 1600000
set_option maxRecDepth 10000
set_option linter.unusedVariables false
set_option linter.unusedSimpArgs false

def Pr.eq (p q : Pr) : Bool := eqI p.a q.a && eqI p.b q.b
theorem Pr.eq_refl (p : Pr) : p.eq p = true := by simp [Pr.eq, eqI_refl]
theorem eqPairS_refl (ps : List Pr) : eqList Pr.eq ps ps = true := eqList_refl Pr.eq_refl ps

def markPrs (k : Nat) : Nat → List Pr
  | 0 => []
  | n + 1 => markPrs k n ++ [⟨((k + 2 * n : Nat) : Int), ((k + 2 * n : Nat) : Int) + 1⟩]
theorem markPrs_len (k : Nat) : ∀ n, (markPrs k n).length = n
  | 0 => rfl
  | n + 1 => by simp [markPrs, markPrs_len k n]
theorem markPrs_get (k : Nat) : ∀ (n i : Nat), i < n → (markPrs k n)[i]? = some ⟨((k + 2 * i : Nat) : Int), ((k + 2 * i : Nat) : Int) + 1⟩
  | 0, i, h => by omega
  | n + 1, i, h => by
    simp only [markPrs]
    by_cases e : i = n
    · subst e; rw [List.getElem?_append_right (by rw [markPrs_len]; exact Nat.le_refl _), markPrs_len]; simp
    · rw [List.getElem?_append_left (by rw [markPrs_len]; omega)]; exact markPrs_get k n i (by omega)
def rowQM (k : Nat) (ps : List Pr) (i : Nat) : List LV := (markPrs k i ++ ps.drop i).map Pr.lv
theorem rowQM_len {k : Nat} {ps : List Pr} {i : Nat} (h : i ≤ ps.length) : (rowQM k ps i).length = ps.length := by simp [rowQM, markPrs_len]; omega
theorem rowQM_get {k : Nat} {ps : List Pr} {i : Nat} (h : i < ps.length) : (rowQM k ps i)[i]? = some ps[i].lv := by
  unfold rowQM
  rw [List.getElem?_map, List.getElem?_append_right (by rw [markPrs_len]; exact Nat.le_refl _), markPrs_len, Nat.sub_self, List.getElem?_drop, Nat.add_zero, List.getElem?_eq_getElem h]
  rfl
theorem rowQM_set {k : Nat} {ps : List Pr} {i : Nat} (h : i < ps.length) : (rowQM k ps i).set i (Pr.lv ⟨((k + 2 * i : Nat) : Int), ((k + 2 * i : Nat) : Int) + 1⟩) = rowQM k ps (i + 1) := by
  unfold rowQM
  rw [List.drop_eq_getElem_cons h, List.map_append, List.map_cons, List.set_append_right _ _ (by simp [markPrs_len])]
  simp [markPrs, markPrs_len]

end Go.Proofs.Ytpfipmjmblgjfaa