/- Contracts of functions of the program and of its model, told over readings. -/
import Derived.Test.YtpfipmjmblgjfaaDPE
namespace Go.Proofs.Ytpfipmjmblgjfaa
open Go.Lg Go.Pm
set_option maxHeartbeats 6400000
set_option maxRecDepth 10000
set_option linter.unusedVariables false
set_option linter.unusedSimpArgs false

def mshC (xs : List Int) : Nat × Int := (0, hshL xs (hshN xs))
theorem makeShuffle_h (xs : List Int) (n : Nat) (hn : n ≤ 40) : HSpec env.P 95 [.sl (xs.map buLV), .int .i64 (n : Int)] [] (.hs 0 ((shf xs (mshC xs) n).map intLV).length) [.arr 3 1 ((shf xs (mshC xs) n).map intLV)] := by
  refine HSpec_of_code (E := env.x [159, 158] 0) env_ok.x (fn := Try.f95) Try.func95 rfl Try.call95 _ _ _ _ ?_
  ((repeat ((conv => whnf); first | refine brT ?_ | refine brF ?_)); conv => whnf)
  refine ⟨[], _, _, _, _, l01New_h xs, rfl, rfl, rfl, trivial, ?_⟩
  ((repeat ((conv => whnf); first | refine brT ?_ | refine brF ?_)); conv => whnf)
  rw [show maxI 0 (minI (n : Int) 40) = (n : Int) by rw [show minI (n : Int) 40 = n by unfold minI; split <;> omega]; unfold maxI; split <;> omega]
  refine ⟨[0], _, _, _, _, l6Shuffle_h xs (mshC xs) n hn, rfl, rfl, rfl, trivial, ?_⟩
  ((repeat ((conv => whnf); first | refine brT ?_ | refine brF ?_)); conv => whnf)
  exact ⟨[.hs 0 ((shf xs (mshC xs) n).map intLV).length], rfl, rfl, .inr ⟨[.old 1], ⟨rfl, rfl, trivial⟩, ⟨rfl, rfl, trivial⟩, rfl⟩⟩
theorem lawsInts_spec (ps qs : List Int) : FSpec env.P 97 [.sl (ps.map intLV), .sl (qs.map intLV)] (.bool (eqList eqI ps qs)) := by
  refine FSpec_of_code env_ok (fn := Try.f97) Try.func97 rfl Try.call97 _ _ ?_
  ((repeat ((conv => whnf); first | refine brT ?_ | refine brF ?_)); conv => whnf)
  intro hp
  ((repeat ((conv => whnf); first | refine brT ?_ | refine brF ?_)); conv => whnf)
  intro hq
  ((repeat ((conv => whnf); first | refine brT ?_ | refine brF ?_)); conv => whnf)
  (refine ⟨fun h => ?_, fun h => ?_⟩ <;> rw [h])
  · ((repeat ((conv => whnf); first | refine brT ?_ | refine brF ?_)); conv => whnf)
    refine fin ?_
    rw [notB_t] at h
    rw [eqList_len (eqI_nolen h)]
  rw [notB_f] at h
  have hl := eqI_len h
  have hp' : ps.length ≤ Go.maxLen := by simpa using hp
  ((repeat ((conv => whnf); first | refine brT ?_ | refine brF ?_)); conv => whnf)
  intro _
  ((repeat ((conv => whnf); first | refine brT ?_ | refine brF ?_)); conv => whnf)
  refine loop_rule (α := Nat) (fun k => [(13, .int .i64 (k : Int))]) (fun _ => []) (fun k => ps.length - k) (fun k => k ≤ ps.length ∧ eqTo eqI ps qs k) 0 ⟨Nat.zero_le _, fun _ _ _ h => absurd h (Nat.not_lt_zero _)⟩ ?_ ?_
  · refine ⟨?_, trivial, rfl, rfl⟩
    ((repeat ((conv => whnf); refine ⟨rfl, ?_⟩)); trivial)
  rintro k ⟨hk, he⟩
  ((repeat ((conv => whnf); first | refine brT ?_ | refine brF ?_)); conv => whnf)
  (refine ⟨fun h1 => ?_, fun h1 => ?_⟩ <;> rw [h1])
  · have hlt : k < ps.length := by rw [ltI_t] at h1; simp at h1; omega
    have hlt2 : k < qs.length := by omega
    ((repeat ((conv => whnf); first | refine brT ?_ | refine brF ?_)); conv => whnf)
    refine ⟨true, by kernel_rfl, ?_⟩
    ((repeat ((conv => whnf); first | refine brT ?_ | refine brF ?_)); conv => whnf)
    refine ⟨k, intLV ps[k], rfl, by simp [hlt], rfl, ?_⟩
    ((repeat ((conv => whnf); first | refine brT ?_ | refine brF ?_)); conv => whnf)
    refine ⟨k, intLV qs[k], rfl, by simp [hlt2], rfl, ?_⟩
    ((repeat ((conv => whnf); first | refine brT ?_ | refine brF ?_)); conv => whnf)
    (refine ⟨fun h3 => ?_, fun h3 => ?_⟩ <;> rw [h3])
    · rw [notB_t] at h3
      ((repeat ((conv => whnf); first | refine brT ?_ | refine brF ?_)); conv => whnf)
      refine fin ?_
      rw [eqList_no (k := k) (x := ps[k]) (y := qs[k]) (by simp [hlt]) (by simp [hlt2]) h3]
    · rw [notB_f] at h3
      ((repeat ((conv => whnf); first | refine brT ?_ | refine brF ?_)); conv => whnf)
      refine round_end (k + 1) ⟨hlt, he.succ (x := ps[k]) (y := qs[k]) (by simp [hlt]) (by simp [hlt2]) h3⟩ (by omega) ⟨?_, trivial, rfl, rfl⟩
      have e := step_i hlt hp'
      ((repeat ((conv => whnf); first | refine ⟨e, ?_⟩ | refine ⟨rfl, ?_⟩)); trivial)
  · have h3 : ps.length ≤ k := by rw [ltI_f] at h1; simp at h1; omega
    have h4 : k = ps.length := by omega
    subst h4
    ((repeat ((conv => whnf); first | refine brT ?_ | refine brF ?_)); conv => whnf)
    refine fin ?_
    rw [eqTo.all hl he]

theorem makeShuffle_f (xs : List Int) (n : Nat) (hn : n ≤ 40) : ∃ l, permB l = true ∧ l.length = n ∧ FSpec env.P 95 [.sl (xs.map buLV), .int .i64 (n : Int)] (rowOw l) := by
  obtain ⟨a, b⟩ := shf_perm xs (mshC xs) n
  exact ⟨_, a, b, ints_f (makeShuffle_h xs n hn)⟩
theorem bytes_ints (bs : List Nat) : bs.map byLV = (bs.map fun b : Nat => (b : Int)).map buLV := by rw [List.map_map]; rfl
theorem at0_9 (bs : List Nat) (hb : ∀ b ∈ bs, b < 256) : ∃ N : Nat, (at0 bs).tmod 9 = (N : Int) ∧ N ≤ 8 := by
  have h0 : 0 ≤ at0 bs := by unfold at0; split <;> omega
  have t0 : 0 ≤ (at0 bs).tmod 9 := Int.tmod_nonneg _ h0
  have t1 : (at0 bs).tmod 9 < 9 := Int.tmod_lt_of_pos _ (by omega)
  exact ⟨((at0 bs).tmod 9).toNat, by omega, by omega⟩
theorem eqI_list (xs : List Int) : eqList eqI xs xs = true := eqIntS_refl xs
theorem law_permutations (bs : List Nat) (hbs : bs.length ≤ Go.maxLen ∧ ∀ b ∈ bs, b < 256) : FSpec env.P 23 [.sl (bs.map byLV)] (.bool true) := by
  have hat := at_spec bs hbs.2
  obtain ⟨N, hn, hN8⟩ := at0_9 bs hbs.2
  rw [bytes_ints] at hat ⊢
  generalize (bs.map fun b : Nat => (b : Int)) = xs at hat ⊢
  generalize at0 bs = a0 at hat hn
  obtain ⟨p, pp, pl, hp⟩ := makeShuffle_f (frTo xs 1 (frN xs)) N (by omega)
  obtain ⟨q, qp, ql, hq⟩ := makeShuffle_f (frTo xs 2 (frN xs)) N (by omega)
  have cB : ∀ a b, permB a = true → permB b = true → a.length = N → b.length = N → cmpL a b = cmp a b := fun a b h1 h2 h3 h4 => by
    have : cmpB a b = true := by unfold cmpB; rw [h1, h2, h3, h4, eqI_refl]; rfl
    unfold cmpL; rw [this]
  have hC : ∀ a b, permB a = true → permB b = true → a.length = N → b.length = N → FSpec env.P 33 [rowSl a, rowSl b] (rowOw (cmp a b)) := fun a b h1 h2 h3 h4 => by
    have := ints_f (compose_impl a b (by omega) (by omega))
    rw [cB a b h1 h2 h3 h4] at this; exact this
  have hV : ∀ a, permB a = true → a.length = N → FSpec env.P 29 [rowSl a] (rowOw (inv a)) := fun a h1 h2 => by
    have := ints_f (inv_impl a (by omega))
    unfold invL at this; rw [h1] at this; exact this
  have hI1 := perm_inv pp
  have hI2 := perm_inv qp
  have hpq := perm_cmp pp qp (by omega)
  have l1 : (inv p).length = N := by rw [inv_len, pl]
  have l2 : (inv q).length = N := by rw [inv_len, ql]
  have l3 : (cmp p q).length = N := by rw [cmp_len, pl]
  have c1 := hC p q pp qp pl ql
  have c2 := hC p (inv p) pp hI1 pl l1
  have c3 := hC (inv p) p hI1 pp l1 pl
  have c4 := hC (inv q) (inv p) hI2 hI1 l2 l1
  have v1 := hV p pp pl
  have v2 := hV q qp ql
  have v3 := hV (cmp p q) hpq l3
  rw [cmp_inv pp, pl] at c2
  rw [inv_cmp pp, pl] at c3
  rw [inv_of_cmp pp qp (by omega)] at v3
  have hip := isPerm_impl (cmp p q) (by omega)
  rw [hpq] at hip
  refine FSpec_of_code env_ok (fn := Try.f23) Try.func23 rfl Try.call23 _ _ ?_
  ((repeat ((conv => whnf); first | refine brT ?_ | refine brF ?_)); conv => whnf)
  intro hm
  ((repeat ((conv => whnf); first | refine brT ?_ | refine brF ?_)); conv => whnf)
  (refine ⟨fun hl => ?_, fun hl => ?_⟩ <;> rw [hl])
  · ((repeat ((conv => whnf); first | refine brT ?_ | refine brF ?_)); conv => whnf)
    exact fin rfl
  ((repeat ((conv => whnf); first | refine brT ?_ | refine brF ?_)); conv => whnf)
  refine ⟨_, hat, ?_⟩
  ((repeat ((conv => whnf); first | refine brT ?_ | refine brF ?_)); conv => whnf)
  refine ⟨by decide, ?_⟩
  rw [hn]
  ((repeat ((conv => whnf); first | refine brT ?_ | refine brF ?_)); conv => whnf)
  refine ⟨_, fresh_f xs 1, ?_⟩
  ((repeat ((conv => whnf); first | refine brT ?_ | refine brF ?_)); conv => whnf)
  refine ⟨_, hp, ?_⟩
  ((repeat ((conv => whnf); first | refine brT ?_ | refine brF ?_)); conv => whnf)
  refine ⟨_, fresh_f xs 2, ?_⟩
  ((repeat ((conv => whnf); first | refine brT ?_ | refine brF ?_)); conv => whnf)
  refine ⟨_, hq, ?_⟩
  ((repeat ((conv => whnf); first | refine brT ?_ | refine brF ?_)); conv => whnf)
  refine loop_ruleR (α := Nat) [.old 0] (fun k => [(7, .int .i64 (k : Int)), (23, .undef), (6, .hs 0 ((unit k).map intLV).length)]) (fun k => [.arr 3 1 ((unit k).map intLV)]) (fun k => N - k) (fun k => k ≤ N) 0 (Nat.zero_le _) ?_ ?_
  · refine ⟨?_, ⟨rfl, rfl, trivial⟩, rfl⟩
    ((repeat ((conv => whnf); refine ⟨rfl, rfl, ?_⟩)); trivial)
  intro k hk
  generalize hK : kk _ = KK
  ((repeat ((conv => whnf); first | refine brT ?_ | refine brF ?_)); conv => whnf)
  (refine ⟨fun h1 => ?_, fun h1 => ?_⟩ <;> rw [h1])
  · have hlt : k < N := by rw [ltI_t] at h1; omega
    have e1 := step_i (n := 40) (k := k) (by omega) (by decide)
    have eL : (unit k).map intLV ++ [LV.int .i64 (k : Int)] = (unit (k + 1)).map intLV := by simp only [unit, List.range_succ, List.map_append]; rfl
    ((repeat ((conv => whnf); first | refine brT ?_ | refine brF ?_)); conv => whnf)
    refine ⟨rfl, rfl, ?_, ?_, ?_⟩
    · simp [unit_len]; unfold Go.maxLen; omega
    · simp [unit_len]; omega
    rw [eL]
    subst hK
    ((repeat ((conv => whnf); first | refine brT ?_ | refine brF ?_)); conv => whnf)
    refine round_endR [.old 2] (k + 1) hlt (by omega) ⟨?_, ⟨rfl, rfl, trivial⟩, rfl⟩
    ((repeat ((conv => whnf); first | refine ⟨rfl, e1, ?_⟩ | refine ⟨rfl, rfl, ?_⟩)); trivial)
  · have h3 : k = N := by rw [ltI_f] at h1; omega
    subst h3
    subst hK
    ((repeat ((conv => whnf); first | refine brT ?_ | refine brF ?_)); conv => whnf)
    refine ⟨_, c1, ?_⟩
    ((repeat ((conv => whnf); first | refine brT ?_ | refine brF ?_)); conv => whnf)
    refine ⟨_, hip, ?_⟩
    ((repeat ((conv => whnf); first | refine brT ?_ | refine brF ?_)); conv => whnf)
    refine ⟨_, v1, ?_⟩
    ((repeat ((conv => whnf); first | refine brT ?_ | refine brF ?_)); conv => whnf)
    refine ⟨_, c2, ?_⟩
    ((repeat ((conv => whnf); first | refine brT ?_ | refine brF ?_)); conv => whnf)
    refine ⟨rfl, ?_⟩
    ((repeat ((conv => whnf); first | refine brT ?_ | refine brF ?_)); conv => whnf)
    refine ⟨_, lawsInts_spec (unit k) (unit k), ?_⟩
    rw [eqI_list]
    ((repeat ((conv => whnf); first | refine brT ?_ | refine brF ?_)); conv => whnf)
    refine ⟨_, v1, ?_⟩
    ((repeat ((conv => whnf); first | refine brT ?_ | refine brF ?_)); conv => whnf)
    refine ⟨_, c3, ?_⟩
    ((repeat ((conv => whnf); first | refine brT ?_ | refine brF ?_)); conv => whnf)
    refine ⟨rfl, ?_⟩
    ((repeat ((conv => whnf); first | refine brT ?_ | refine brF ?_)); conv => whnf)
    refine ⟨_, lawsInts_spec (unit k) (unit k), ?_⟩
    rw [eqI_list]
    ((repeat ((conv => whnf); first | refine brT ?_ | refine brF ?_)); conv => whnf)
    refine ⟨_, v3, ?_⟩
    ((repeat ((conv => whnf); first | refine brT ?_ | refine brF ?_)); conv => whnf)
    refine ⟨_, v2, ?_⟩
    ((repeat ((conv => whnf); first | refine brT ?_ | refine brF ?_)); conv => whnf)
    refine ⟨_, v1, ?_⟩
    ((repeat ((conv => whnf); first | refine brT ?_ | refine brF ?_)); conv => whnf)
    refine ⟨_, c4, ?_⟩
    ((repeat ((conv => whnf); first | refine brT ?_ | refine brF ?_)); conv => whnf)
    refine ⟨_, lawsInts_spec _ _, ?_⟩
    rw [eqI_list]
    ((repeat ((conv => whnf); first | refine brT ?_ | refine brF ?_)); conv => whnf)
    exact fin rfl

end Go.Proofs.Ytpfipmjmblgjfaa
