/- Contracts of functions of the program and of its model, told over readings. -/
import Derived.Test.YtplkockghigpdaaCWGD
import Derived.Test.YtplkockghigpdaaCWGC
import Derived.Test.YtplkockghigpdaaCWGA
import Derived.Test.YtplkockghigpdaaCLgW
namespace Go.Proofs.Ytplkockghigpdaa
open Go.Lg Go.Pm
set_option maxHeartbeats 6400000
set_option maxRecDepth 10000
set_option linter.unusedVariables false
set_option linter.unusedSimpArgs false

theorem linesDown_h {ps : List Per} (hp : parsIn ps) (hs : shallow (depths ps) = true) (hl : ps.length ≤ 40) {p : Nat} (hpl : p < ps.length) : ∀ (d q : Nat), q < ps.length → ps.length ≤ q + d →
    HSpec env.P 112 [upL ps, .int .i64 (q : Int), .int .i64 (p : Int)] [] (.tup [.hs 0 (lnTr (lnR ps p q)).length, .bool (lnB ps p q)]) [.tree 27 1 (lnTr (lnR ps p q))]
  | 0, q, hq, hd => by omega
  | d + 1, q, hq, hd => by
    have IH : ∀ c, c < ps.length → q < c → FSpec env.P 112 [upL ps, .int .i64 (c : Int), .int .i64 (p : Int)] (.tup [.own 27 1 ((lnR ps p c).map natSl), .bool (lnB ps p c)]) := fun c hc hqc =>
      lnRes_f (linesDown_h hp hs hl hpl d c hc (by omega))
    have hU : ((clT ps).map rowSl).length = ps.length := by rw [List.length_map]; exact clTo_len ps _
    have hn40 : ps.length ≤ Go.maxLen := by unfold Go.maxLen; omega
    refine HSpec_of_code (E := env.x [] 0) env_ok.x (fn := Try.f112) Try.func112 rfl Try.call112 _ _ _ _ ?_
    by_cases hqp : q = p
    · subst hqp
      have hLN := LN_self ps q hq
      have hB : lnB ps q q = true := by unfold lnB; rw [hLN, leI_t]; show (1 : Int) ≤ 100; omega
      have hR : lnR ps q q = [[q]] := by unfold lnR; rw [hB]; exact hLN
      rw [hB, hR]
      ((repeat ((conv => whnf); first | refine brT ?_ | refine brF ?_)); conv => whnf)
      rw [show eqI (q : Int) (q : Int) = true from eqI_t.2 rfl]
      ((repeat ((conv => whnf); first | refine brT ?_ | refine brF ?_)); conv => whnf)
      refine ⟨rfl, ?_⟩
      ((repeat ((conv => whnf); first | refine brT ?_ | refine brF ?_)); conv => whnf)
      exact ⟨[.hs 0 1, .bool true], rfl, rfl, .inr ⟨[.old 1], ⟨rfl, rfl, rfl, rfl, trivial⟩, ⟨rfl, rfl, trivial⟩, rfl⟩⟩
    · have hLN := LN_rec hp hq hqp
      have he0 : eqI (q : Int) (p : Int) = false := by rw [eqI_f]; omega
      ((repeat ((conv => whnf); first | refine brT ?_ | refine brF ?_)); conv => whnf)
      rw [he0]
      ((repeat ((conv => whnf); first | refine brT ?_ | refine brF ?_)); conv => whnf)
      intro _
      rw [hU]
      ((repeat ((conv => whnf); first | refine brT ?_ | refine brF ?_)); conv => whnf)
      refine loop_ruleR (α := Nat) [.nil 27 1] (fun k => [(22, .int .i64 (k : Int)), (8, .hs 0 (lnTr (lnTo ps p q k)).length)]) (fun k => [.tree 27 1 (lnTr (lnTo ps p q k))]) (fun k => ps.length - k) (fun k => k ≤ ps.length ∧ (lnTo ps p q k).length ≤ 100) 0 ⟨Nat.zero_le _, by show (0 : Nat) ≤ 100; omega⟩ ?_ ?_
      · refine ⟨?_, ⟨rfl, rfl, trivial⟩, rfl⟩
        ((repeat ((conv => whnf); refine ⟨rfl, rfl, ?_⟩)); trivial)
      rintro k ⟨hk, h100⟩
      generalize hK : kk _ = KK
      ((repeat ((conv => whnf); first | refine brT ?_ | refine brF ?_)); conv => whnf)
      (refine ⟨fun g1 => ?_, fun g1 => ?_⟩ <;> rw [g1])
      · have hlt : k < ps.length := by rw [ltI_t] at g1; omega
        have e := step_i hlt hn40
        have hS := lnTo_succ ps p q k
        have i1 := isParent_spec hp hs hlt hq
        have i2 := lead_spec hp hs hpl hlt
        ((repeat ((conv => whnf); first | refine brT ?_ | refine brF ?_)); conv => whnf)
        refine ⟨_, i1, ?_⟩
        have hno : kidB ps p q k = false → lnTo ps p q (k + 1) = lnTo ps p q k := fun h => by rw [hS]; unfold stp; rw [h]; exact List.append_nil _
        ((repeat ((conv => whnf); first | refine brT ?_ | refine brF ?_)); conv => whnf)
        cases e1 : eqI (upd ps k q) 1
        · rw [show notB false = true by simp [notB]]
          have h0 := hno (by unfold kidB; rw [e1]; rfl)
          have e5 : LV.hs 0 (lnTr (lnTo ps p q k)).length = LV.hs 0 (lnTr (lnTo ps p q (k + 1))).length := by rw [h0]
          ((repeat ((conv => whnf); first | refine brT ?_ | refine brF ?_)); conv => whnf)
          subst hK
          refine round_endR [.old 0] (k + 1) ⟨hlt, by rw [h0]; exact h100⟩ (by omega) ⟨?_, ⟨rfl, congrArg (Blk.tree 27 1) (by rw [h0]), trivial⟩, rfl⟩
          repeat ((conv => whnf); first | refine ⟨rfl, e, ?_⟩ | refine ⟨rfl, e5, ?_⟩ | refine ⟨rfl, rfl, ?_⟩)
          trivial
        rw [show notB true = false by simp [notB]]
        ((repeat ((conv => whnf); first | refine brT ?_ | refine brF ?_)); conv => whnf)
        refine ⟨_, i2, ?_⟩
        ((repeat ((conv => whnf); first | refine brT ?_ | refine brF ?_)); conv => whnf)
        cases e2 : leI 0 (upd ps p k)
        · rw [show notB false = true by simp [notB]]
          have h0 := hno (by unfold kidB; rw [e1, e2]; rfl)
          have e5 : LV.hs 0 (lnTr (lnTo ps p q k)).length = LV.hs 0 (lnTr (lnTo ps p q (k + 1))).length := by rw [h0]
          ((repeat ((conv => whnf); first | refine brT ?_ | refine brF ?_)); conv => whnf)
          subst hK
          refine round_endR [.old 0] (k + 1) ⟨hlt, by rw [h0]; exact h100⟩ (by omega) ⟨?_, ⟨rfl, congrArg (Blk.tree 27 1) (by rw [h0]), trivial⟩, rfl⟩
          repeat ((conv => whnf); first | refine ⟨rfl, e, ?_⟩ | refine ⟨rfl, e5, ?_⟩ | refine ⟨rfl, rfl, ?_⟩)
          trivial
        rw [show notB true = false by simp [notB]]
        have hkid : kidB ps p q k = true := by unfold kidB; rw [e1, e2]; rfl
        have hqk := kid_lt hp hlt hq hkid
        have ih := IH k hlt hqk
        ((repeat ((conv => whnf); first | refine brT ?_ | refine brF ?_)); conv => whnf)
        refine ⟨_, ih, ?_⟩
        ((repeat ((conv => whnf); first | refine brT ?_ | refine brF ?_)); conv => whnf)
        have hbig : 100 < (lnTo ps p q (k + 1)).length → lnB ps p q = false ∧ lnR ps p q = [] := fun h => by
          have h1 := lnTo_le ps p q (show k + 1 ≤ ps.length by omega)
          have h2 : lnB ps p q = false := by unfold lnB; rw [leI_f, hLN]; omega
          exact ⟨h2, by unfold lnR; rw [h2]⟩
        have hlk := stp_len hkid
        have hS2 : (lnTo ps p q (k + 1)).length = (lnTo ps p q k).length + (LN ps p k).length := by rw [hS, List.length_append, hlk]
        cases hB : lnB ps p k
        · obtain ⟨b1, b2⟩ := hbig (by have : ¬((LN ps p k).length : Int) ≤ 100 := by { unfold lnB at hB; rw [leI_f] at hB; omega }
                                      omega)
          rw [show notB false = true by simp [notB]]
          subst hK
          ((repeat ((conv => whnf); first | refine brT ?_ | refine brF ?_)); conv => whnf)
          rw [b1, b2]
          exact ⟨[.hs 0 0, .bool false], rfl, rfl, .nl [.tmp 0 [] true 27 1] [.old 1] ⟨⟨rfl, rfl, rfl, rfl, trivial⟩, ⟨rfl, rfl, trivial⟩, rfl⟩⟩
        rw [show notB true = false by simp [notB]]
        have hR : lnR ps p k = LN ps p k := by unfold lnR; rw [hB]
        rw [hR]
        have hl1 : (LN ps p k).length ≤ 100 := by unfold lnB at hB; rw [leI_t] at hB; omega
        have hw : IntKind.i64.wrap (((lnTr (lnTo ps p q k)).length : Int) + (((LN ps p k).map natSl).length : Int)) = (((lnTo ps p q k).length + (LN ps p k).length : Nat) : Int) := by
          rw [lnTr_len, List.length_map, wrap64 (by omega) (by omega)]; omega
        ((repeat ((conv => whnf); first | refine brT ?_ | refine brF ?_)); conv => whnf)
        refine ⟨rfl, fun _ => ?_⟩
        ((repeat ((conv => whnf); first | refine brT ?_ | refine brF ?_)); conv => whnf)
        intro _
        ((repeat ((conv => whnf); first | refine brT ?_ | refine brF ?_)); conv => whnf)
        rw [hw]
        (refine ⟨fun g3 => ?_, fun g3 => ?_⟩ <;> rw [g3])
        · obtain ⟨b1, b2⟩ := hbig (by rw [ltI_t] at g3; rw [hS2]; omega)
          subst hK
          ((repeat ((conv => whnf); first | refine brT ?_ | refine brF ?_)); conv => whnf)
          rw [b1, b2]
          exact ⟨[.hs 0 0, .bool false], rfl, rfl, .nl [.tmp 0 [] true 27 1] [.old 1] ⟨⟨rfl, rfl, rfl, rfl, trivial⟩, ⟨rfl, rfl, trivial⟩, rfl⟩⟩
        have hsum : (lnTo ps p q (k + 1)).length ≤ 100 := by rw [ltI_f] at g3; rw [hS2]; omega
        have hSt : lnTo ps p q (k + 1) = lnTo ps p q k ++ (LN ps p k).map (q :: ·) := by rw [hS]; unfold stp; rw [hkid]
        have hsh := LN_short hpl hlt
        generalize hA : lnTo ps p q k = A at hSt hS2 ⊢
        generalize hRR : LN ps p k = R at hSt hS2 hl1 hsh ⊢
        have hRl : (R.map natSl).length = R.length := List.length_map ..
        ((repeat ((conv => whnf); first | refine brT ?_ | refine brF ?_)); conv => whnf)
        intro _
        ((repeat ((conv => whnf); first | refine brT ?_ | refine brF ?_)); conv => whnf)
        rw [hRl]
        refine loop_ruleR (α := Nat) [.old 0] (fun i => [(47, .undef), (56, .int .i64 (i : Int)), (8, .hs 0 (lnTr (A ++ (R.take i).map (q :: ·))).length)]) (fun i => [.tree 27 1 (lnTr (A ++ (R.take i).map (q :: ·)))]) (fun i => R.length - i) (fun i => i ≤ R.length) 0 (Nat.zero_le _) ?_ ?_
        · have hA0 : lnTr A = lnTr (A ++ (R.take 0).map (q :: ·)) := by simp
          have e0 : LV.hs 0 (lnTr A).length = LV.hs 0 (lnTr (A ++ (R.take 0).map (q :: ·))).length := by rw [← hA0]
          refine ⟨?_, ⟨rfl, congrArg (Blk.tree 27 1) hA0, trivial⟩, rfl⟩
          repeat ((conv => whnf); first | refine ⟨rfl, e0, ?_⟩ | refine ⟨rfl, rfl, ?_⟩)
          trivial
        intro i hi
        generalize hK2 : kk _ = KK2
        ((repeat ((conv => whnf); first | refine brT ?_ | refine brF ?_)); conv => whnf)
        (refine ⟨fun g4 => ?_, fun g4 => ?_⟩ <;> rw [g4])
        · have hli : i < R.length := by rw [ltI_t] at g4; omega
          have e4 := step_i hli (by unfold Go.maxLen; omega)
          have hg : (R.map natSl)[i]? = some (natSl R[i]) := by rw [List.getElem?_map, List.getElem?_eq_getElem hli]; rfl
          have hlen := (hsh R[i] (List.getElem_mem hli)).1
          have htk : R.take (i + 1) = R.take i ++ [R[i]] := by rw [List.take_succ_eq_append_getElem hli]
          generalize R[i] = r at hg hlen htk
          ((repeat ((conv => whnf); first | refine brT ?_ | refine brF ?_)); conv => whnf)
          refine ⟨i, natSl r, rfl, hg, rfl, ?_⟩
          rw [show natSl r = .sl (r.map natLV) from rfl]
          ((repeat ((conv => whnf); first | refine brT ?_ | refine brF ?_)); conv => whnf)
          refine ⟨fun y hy => by (obtain ⟨x, _, rfl⟩ := List.mem_map.1 hy; rfl), ?_⟩
          ((repeat ((conv => whnf); first | refine brT ?_ | refine brF ?_)); conv => whnf)
          have hr1 : ([LV.int .i64 (q : Int)] ++ r.map natLV) = (q :: r).map natLV := rfl
          have hr2 : ([LV.int .i64 (q : Int)] ++ r.map natLV).length ≤ 41 := by rw [hr1, List.length_map, List.length_cons]; omega
          refine ⟨rfl, by unfold maxLen; omega, by show ([LV.int .i64 (q : Int)] ++ r.map natLV).length * 8 ≤ _; omega, ?_⟩
          rw [hr1]
          ((repeat ((conv => whnf); first | refine brT ?_ | refine brF ?_)); conv => whnf)
          refine ⟨rfl, ?_⟩
          have hB2 : lnTr (A ++ (R.take i).map (q :: ·)) ++ [natOw (q :: r)] = lnTr (A ++ (R.take (i + 1)).map (q :: ·)) := by
            rw [lnTr_snoc, htk, List.map_append, List.append_assoc]; rfl
          have hBl : (lnTr (A ++ (R.take (i + 1)).map (q :: ·))).length ≤ 100 := by
            rw [lnTr_len, List.length_append, List.length_map, List.length_take]
            rw [hS2] at hsum
            omega
          ((repeat ((conv => whnf); first | refine brT ?_ | refine brF ?_)); conv => whnf)
          refine ⟨rfl, rfl, ?_, ?_, ?_⟩
          · show (lnTr (A ++ (R.take i).map (q :: ·)) ++ [natOw (q :: r)]).length ≤ _
            rw [hB2]; unfold Go.maxLen; omega
          · show (lnTr (A ++ (R.take i).map (q :: ·)) ++ [natOw (q :: r)]).length * 24 ≤ _
            rw [hB2]; omega
          ((repeat ((conv => whnf); first | refine brT ?_ | refine brF ?_)); conv => whnf)
          subst hK2
          refine round_endR [.old 4] (i + 1) hli (by omega) ⟨?_, ⟨rfl, congrArg (Blk.tree 27 1) hB2, trivial⟩, rfl⟩
          have e6 : LV.hs 0 (lnTr (A ++ (R.take i).map (q :: ·)) ++ [natOw (q :: r)]).length = LV.hs 0 (lnTr (A ++ (R.take (i + 1)).map (q :: ·))).length := by rw [hB2]
          repeat ((conv => whnf); first | refine ⟨rfl, e4, ?_⟩ | refine ⟨rfl, e6, ?_⟩ | refine ⟨rfl, rfl, ?_⟩)
          trivial
        · have hiR : i = R.length := by rw [ltI_f] at g4; omega
          subst hiR
          have hend : A ++ (R.take R.length).map (q :: ·) = lnTo ps p q (k + 1) := by rw [List.take_length, hSt]
          have e7 : LV.hs 0 (lnTr (A ++ (R.take R.length).map (q :: ·))).length = LV.hs 0 (lnTr (lnTo ps p q (k + 1))).length := by rw [hend]
          subst hK2
          ((repeat ((conv => whnf); first | refine brT ?_ | refine brF ?_)); conv => whnf)
          subst hK
          refine round_endR [.old 0] (k + 1) ⟨hlt, hsum⟩ (by omega) ⟨?_, ⟨rfl, congrArg (Blk.tree 27 1) (by rw [hend]), trivial⟩, rfl⟩
          repeat ((conv => whnf); first | refine ⟨rfl, e, ?_⟩ | refine ⟨rfl, e7, ?_⟩ | refine ⟨rfl, rfl, ?_⟩)
          trivial
      · have hkn : k = ps.length := by rw [ltI_f] at g1; omega
        subst hkn
        have hB : lnB ps p q = true := by unfold lnB; rw [leI_t, hLN]; omega
        have hR : lnR ps p q = lnTo ps p q ps.length := by unfold lnR; rw [hB]; exact hLN
        subst hK
        ((repeat ((conv => whnf); first | refine brT ?_ | refine brF ?_)); conv => whnf)
        rw [hB, hR]
        exact ⟨[.hs 0 (lnTr (lnTo ps p q ps.length)).length, .bool true], rfl, rfl, .inr ⟨[.old 0], ⟨rfl, rfl, rfl, rfl, trivial⟩, ⟨rfl, rfl, trivial⟩, rfl⟩⟩
end Go.Proofs.Ytplkockghigpdaa


namespace Go.Proofs.Ytplkockghigpdaa
open Go.Lg Go.Pm
set_option maxHeartbeats 3200000
set_option maxRecDepth 10000
set_option linter.unusedVariables false
set_option linter.unusedSimpArgs false

/-! ### Lists of persons, by the model -/
end Go.Proofs.Ytplkockghigpdaa


namespace Go.Proofs.Ytplkockghigpdaa
open Go.Lg Go.Pm
set_option maxHeartbeats 6400000
set_option maxRecDepth 10000
set_option linter.unusedVariables false
set_option linter.unusedSimpArgs false

theorem tkN_len (l : List (List Nat)) : (tkN l).length ≤ 101 := by unfold tkN; rw [List.length_take]; exact Nat.min_le_left _ _
theorem tkN_snoc_t {l : List (List Nat)} {y : List Nat} (h : leI ((tkN l).length : Int) 100 = true) : tkN (l ++ [y]) = tkN l ++ [y] := by
  rw [leI_t] at h
  unfold tkN at h ⊢
  rw [List.length_take] at h
  have hl : l.length ≤ 100 := by omega
  rw [List.take_append, List.take_of_length_le (show l.length ≤ 101 by omega), List.take_of_length_le (show [y].length ≤ 101 - l.length by simp; omega)]
theorem tkN_snoc_f {l : List (List Nat)} {y : List Nat} (h : leI ((tkN l).length : Int) 100 = false) : tkN (l ++ [y]) = tkN l := by
  rw [leI_f] at h
  unfold tkN at h ⊢
  rw [List.length_take] at h
  rw [List.take_append, show 101 - l.length = 0 by omega]
  simp
theorem tkN_map (q : Nat) (l : List (List Nat)) : (tkN l).map (q :: ·) = tkN (l.map (q :: ·)) := by unfold tkN; rw [List.map_take]
theorem tkN_idem (l : List (List Nat)) : tkN (tkN l) = tkN l := by unfold tkN; rw [List.take_take, Nat.min_self]
theorem lnS_f {f : FuncId} {args : List LV} {l : List (List Nat)} (h : HSpec env.P f args [] (.hs 0 (lnTr l).length) [.tree 27 1 (lnTr l)]) : FSpec env.P f args (.own 27 1 (l.map natSl)) :=
  FSpec_of_tree h (by rw [dms_lnTr]; simp [exW, lnTr_len])
theorem paB_eq {ps : List Per} (hp : parsIn ps) {c q : Nat} (hc : c < ps.length) (hq : q < ps.length) : (eqI ps[c].father (q : Int) || eqI ps[c].mother (q : Int)) = eqI (upd ps c q) 1 := by
  rw [Bool.eq_iff_iff, Bool.or_eq_true_iff, eqI_t, eqI_t, pa_one hp hc hq]
  constructor
  · intro h; exact ⟨hc, h⟩
  · rintro ⟨_, h⟩; exact h
theorem l8Lines_h {ps : List Per} (us : List Uni) (hp : parsIn ps) (hs : shallow (depths ps) = true) (hl : ps.length ≤ 40) {p : Nat} (hpl : p < ps.length) : ∀ (d q : Nat), q < ps.length → ps.length ≤ q + d →
    HSpec env.P 111 [famLV ps us, .int .i64 (q : Int), .int .i64 (p : Int), .int .i64 100] [] (.hs 0 (lnTr (tkN (LN ps p q))).length) [.tree 27 1 (lnTr (tkN (LN ps p q)))]
  | 0, q, hq, hd => by omega
  | d + 1, q, hq, hd => by
    have IH : ∀ c, c < ps.length → q < c → FSpec env.P 111 [famLV ps us, .int .i64 (c : Int), .int .i64 (p : Int), .int .i64 100] (.own 27 1 ((tkN (LN ps p c)).map natSl)) := fun c hc hqc =>
      lnS_f (l8Lines_h us hp hs hl hpl d c hc (by omega))
    have hP : (ps.map Per.lv).length = ps.length := List.length_map ..
    have hn40 : ps.length ≤ Go.maxLen := by unfold Go.maxLen; omega
    refine HSpec_of_code (E := env.x [] 0) env_ok.x (fn := Try.f111) Try.func111 rfl Try.call111 _ _ _ _ ?_
    by_cases hqp : q = p
    · subst hqp
      have hLN := LN_self ps q hq
      rw [hLN]
      ((repeat ((conv => whnf); first | refine brT ?_ | refine brF ?_)); conv => whnf)
      rw [show eqI (q : Int) (q : Int) = true from eqI_t.2 rfl]
      ((repeat ((conv => whnf); first | refine brT ?_ | refine brF ?_)); conv => whnf)
      refine ⟨rfl, ?_⟩
      ((repeat ((conv => whnf); first | refine brT ?_ | refine brF ?_)); conv => whnf)
      exact ⟨[.hs 0 1], rfl, rfl, .inr ⟨[.old 2], ⟨rfl, rfl, trivial⟩, ⟨rfl, rfl, trivial⟩, rfl⟩⟩
    · have hLN := LN_rec hp hq hqp
      have he0 : eqI (q : Int) (p : Int) = false := by rw [eqI_f]; omega
      ((repeat ((conv => whnf); first | refine brT ?_ | refine brF ?_)); conv => whnf)
      rw [he0]
      ((repeat ((conv => whnf); first | refine brT ?_ | refine brF ?_)); conv => whnf)
      intro _
      rw [hP]
      ((repeat ((conv => whnf); first | refine brT ?_ | refine brF ?_)); conv => whnf)
      refine loop_ruleR (α := Nat) [.old 0, .old 1] (fun k => [(19, .undef), (23, .int .i64 (k : Int)), (9, .hs 1 (lnTr (tkN (lnTo ps p q k))).length)]) (fun k => [.box (famLV ps us), .tree 27 1 (lnTr (tkN (lnTo ps p q k)))]) (fun k => ps.length - k) (fun k => k ≤ ps.length) 0 (Nat.zero_le _) ?_ ?_
      · refine ⟨?_, ⟨rfl, rfl, rfl, rfl, trivial⟩, rfl⟩
        ((repeat ((conv => whnf); refine ⟨rfl, rfl, ?_⟩)); trivial)
      intro k hk
      generalize hK : kk _ = KK
      ((repeat ((conv => whnf); first | refine brT ?_ | refine brF ?_)); conv => whnf)
      (refine ⟨fun g1 => ?_, fun g1 => ?_⟩ <;> rw [g1])
      · have hlt : k < ps.length := by rw [ltI_t] at g1; omega
        have e := step_i hlt hn40
        have hS := lnTo_succ ps p q k
        have hno : kidB ps p q k = false → lnTo ps p q (k + 1) = lnTo ps p q k := fun h => by rw [hS]; unfold stp; rw [h]; exact List.append_nil _
        have hpa := paB_eq hp hlt hq
        have hget : (ps.map Per.lv)[k]? = some (Per.lv ps[k]) := by rw [List.getElem?_map, List.getElem?_eq_getElem hlt]; rfl
        have hup := up_f ps us hl hp hs p hpl
        generalize ps[k] = P at hpa hget
        ((repeat ((conv => whnf); first | refine brT ?_ | refine brF ?_)); conv => whnf)
        refine ⟨k, P.lv, rfl, hget, rfl, ?_⟩
        ((repeat ((conv => whnf); first | refine brT ?_ | refine brF ?_)); conv => whnf)
        cases c1 : eqI P.father (q : Int)
        · rw [show notB false = true by simp [notB]]
          ((repeat ((conv => whnf); first | refine brT ?_ | refine brF ?_)); conv => whnf)
          refine ⟨k, P.lv, rfl, hget, rfl, ?_⟩
          ((repeat ((conv => whnf); first | refine brT ?_ | refine brF ?_)); conv => whnf)
          cases c2 : eqI P.mother (q : Int)
          · rw [show notB false = true by simp [notB]]
            rw [c1, c2] at hpa
            have h0 := hno (by unfold kidB; rw [← hpa]; rfl)
            have e5 : LV.hs 1 (lnTr (tkN (lnTo ps p q k))).length = LV.hs 1 (lnTr (tkN (lnTo ps p q (k + 1)))).length := by rw [h0]
            ((repeat ((conv => whnf); first | refine brT ?_ | refine brF ?_)); conv => whnf)
            subst hK
            refine round_endR [.old 0, .old 1] (k + 1) hlt (by omega) ⟨?_, ⟨rfl, rfl, rfl, congrArg (Blk.tree 27 1) (by rw [h0]), trivial⟩, rfl⟩
            repeat ((conv => whnf); first | refine ⟨rfl, e, ?_⟩ | refine ⟨rfl, e5, ?_⟩ | refine ⟨rfl, rfl, ?_⟩)
            trivial
          · rw [show notB true = false by simp [notB]]
            rw [c1, c2] at hpa
            have hone : eqI (upd ps k q) 1 = true := hpa.symm
            ((repeat ((conv => whnf); first | refine brT ?_ | refine brF ?_)); conv => whnf)
            refine ⟨_, hup, ?_⟩
            ((repeat ((conv => whnf); first | refine brT ?_ | refine brF ?_)); conv => whnf)
            refine ⟨k, intLV (upd ps p k), rfl, upRow_get hlt, rfl, ?_⟩
            ((repeat ((conv => whnf); first | refine brT ?_ | refine brF ?_)); conv => whnf)
            cases e2 : ltI (upd ps p k) 0
            case true =>
              have h0 := hno (by unfold kidB; rw [show leI 0 (upd ps p k) = false by rw [ltI_t] at e2; rw [leI_f]; omega]; exact Bool.and_false _)
              have e5 : LV.hs 1 (lnTr (tkN (lnTo ps p q k))).length = LV.hs 1 (lnTr (tkN (lnTo ps p q (k + 1)))).length := by rw [h0]
              ((repeat ((conv => whnf); first | refine brT ?_ | refine brF ?_)); conv => whnf)
              subst hK
              refine round_endR [.old 0, .old 1] (k + 1) hlt (by omega) ⟨?_, ⟨rfl, rfl, rfl, congrArg (Blk.tree 27 1) (by rw [h0]), trivial⟩, rfl⟩
              repeat ((conv => whnf); first | refine ⟨rfl, e, ?_⟩ | refine ⟨rfl, e5, ?_⟩ | refine ⟨rfl, rfl, ?_⟩)
              trivial
            have hkid : kidB ps p q k = true := by unfold kidB; rw [hone, show leI 0 (upd ps p k) = true by rw [ltI_f] at e2; rw [leI_t]; omega]; rfl
            have hqk := kid_lt hp hlt hq hkid
            have ih := IH k hlt hqk
            have hSt : tkN (lnTo ps p q (k + 1)) = tkN (tkN (lnTo ps p q k) ++ (tkN (LN ps p k)).map (q :: ·)) := by rw [hS, tkN_map, tkN_app]; unfold stp; rw [hkid]
            have hsh : ∀ l ∈ tkN (LN ps p k), l.length ≤ ps.length := fun l h => (LN_short hpl hlt l (List.mem_of_mem_take h)).1
            have hAA : tkN (tkN (lnTo ps p q k)) = tkN (lnTo ps p q k) := tkN_idem _
            have hRl1 := tkN_len (LN ps p k)
            ((repeat ((conv => whnf); first | refine brT ?_ | refine brF ?_)); conv => whnf)
            refine ⟨_, ih, ?_⟩
            ((repeat ((conv => whnf); first | refine brT ?_ | refine brF ?_)); conv => whnf)
            generalize hA : tkN (lnTo ps p q k) = A at hSt hAA ⊢
            generalize hRR : tkN (LN ps p k) = R at hSt hsh hRl1 ⊢
            have hRl : (R.map natSl).length = R.length := List.length_map ..
            intro _
            ((repeat ((conv => whnf); first | refine brT ?_ | refine brF ?_)); conv => whnf)
            rw [hRl]
            refine loop_ruleR (α := Nat) [.old 0, .old 1] (fun i => [(59, .int .i64 (i : Int)), (9, .hs 1 (lnTr (tkN (A ++ (R.take i).map (q :: ·)))).length)]) (fun i => [.box (famLV ps us), .tree 27 1 (lnTr (tkN (A ++ (R.take i).map (q :: ·))))]) (fun i => R.length - i) (fun i => i ≤ R.length) 0 (Nat.zero_le _) ?_ ?_
            case refine_1 =>
              have hA0 : lnTr A = lnTr (tkN (A ++ (R.take 0).map (q :: ·))) := by simp [hAA]
              have e0 : LV.hs 1 (lnTr A).length = LV.hs 1 (lnTr (tkN (A ++ (R.take 0).map (q :: ·)))).length := by rw [← hA0]
              refine ⟨?_, ⟨rfl, rfl, rfl, congrArg (Blk.tree 27 1) hA0, trivial⟩, rfl⟩
              repeat ((conv => whnf); first | refine ⟨rfl, e0, ?_⟩ | refine ⟨rfl, rfl, ?_⟩)
              trivial
            intro i hi
            generalize hK2 : kk _ = KK2
            ((repeat ((conv => whnf); first | refine brT ?_ | refine brF ?_)); conv => whnf)
            (refine ⟨fun g4 => ?_, fun g4 => ?_⟩ <;> rw [g4])
            · have hli : i < R.length := by rw [ltI_t] at g4; omega
              have e4 := step_i hli (by unfold Go.maxLen; omega)
              have hg : (R.map natSl)[i]? = some (natSl R[i]) := by rw [List.getElem?_map, List.getElem?_eq_getElem hli]; rfl
              have hlen := hsh R[i] (List.getElem_mem hli)
              have htk : A ++ (R.take (i + 1)).map (q :: ·) = (A ++ (R.take i).map (q :: ·)) ++ [q :: R[i]] := by rw [List.take_succ_eq_append_getElem hli, List.map_append, List.append_assoc]; rfl
              generalize R[i] = r at hg hlen htk
              have hB100 := tkN_len (A ++ (R.take (i + 1)).map (q :: ·))
              ((repeat ((conv => whnf); first | refine brT ?_ | refine brF ?_)); conv => whnf)
              refine ⟨i, natSl r, rfl, hg, rfl, ?_⟩
              rw [show natSl r = .sl (r.map natLV) from rfl]
              ((repeat ((conv => whnf); first | refine brT ?_ | refine brF ?_)); conv => whnf)
              refine ⟨rfl, fun _ => ?_⟩
              ((repeat ((conv => whnf); first | refine brT ?_ | refine brF ?_)); conv => whnf)
              rw [lnTr_len]
              (refine ⟨fun g5 => ?_, fun g5 => ?_⟩ <;> rw [g5])
              · have hsn := tkN_snoc_t (y := q :: r) g5
                rw [← htk] at hsn
                ((repeat ((conv => whnf); first | refine brT ?_ | refine brF ?_)); conv => whnf)
                refine ⟨fun y hy => by (obtain ⟨x, _, rfl⟩ := List.mem_map.1 hy; rfl), ?_⟩
                ((repeat ((conv => whnf); first | refine brT ?_ | refine brF ?_)); conv => whnf)
                have hr1 : ([LV.int .i64 (q : Int)] ++ r.map natLV) = (q :: r).map natLV := rfl
                have hr2 : ([LV.int .i64 (q : Int)] ++ r.map natLV).length ≤ 41 := by rw [hr1, List.length_map, List.length_cons]; omega
                refine ⟨rfl, by unfold maxLen; omega, by show ([LV.int .i64 (q : Int)] ++ r.map natLV).length * 8 ≤ _; omega, ?_⟩
                rw [hr1]
                ((repeat ((conv => whnf); first | refine brT ?_ | refine brF ?_)); conv => whnf)
                refine ⟨rfl, ?_⟩
                have hB2 : lnTr (tkN (A ++ (R.take i).map (q :: ·))) ++ [natOw (q :: r)] = lnTr (tkN (A ++ (R.take (i + 1)).map (q :: ·))) := by rw [lnTr_snoc, ← hsn]
                have hBl : (lnTr (tkN (A ++ (R.take (i + 1)).map (q :: ·)))).length ≤ 101 := by rw [lnTr_len]; exact hB100
                ((repeat ((conv => whnf); first | refine brT ?_ | refine brF ?_)); conv => whnf)
                refine ⟨rfl, (lnTr_len _).symm, ?_, ?_, ?_⟩
                · show (lnTr (tkN (A ++ (R.take i).map (q :: ·))) ++ [natOw (q :: r)]).length ≤ _
                  rw [hB2]; unfold Go.maxLen; omega
                · show (lnTr (tkN (A ++ (R.take i).map (q :: ·))) ++ [natOw (q :: r)]).length * 24 ≤ _
                  rw [hB2]; omega
                ((repeat ((conv => whnf); first | refine brT ?_ | refine brF ?_)); conv => whnf)
                subst hK2
                refine round_endR [.old 0, .old 5] (i + 1) hli (by omega) ⟨?_, ⟨rfl, rfl, rfl, congrArg (Blk.tree 27 1) hB2, trivial⟩, rfl⟩
                have e6 : LV.hs 1 (lnTr (tkN (A ++ (R.take i).map (q :: ·))) ++ [natOw (q :: r)]).length = LV.hs 1 (lnTr (tkN (A ++ (R.take (i + 1)).map (q :: ·)))).length := by rw [hB2]
                repeat ((conv => whnf); first | refine ⟨rfl, e4, ?_⟩ | refine ⟨rfl, e6, ?_⟩ | refine ⟨rfl, rfl, ?_⟩)
                trivial
              · have hsn := tkN_snoc_f (y := q :: r) g5
                rw [← htk] at hsn
                ((repeat ((conv => whnf); first | refine brT ?_ | refine brF ?_)); conv => whnf)
                subst hK2
                refine round_endR [.old 0, .old 1] (i + 1) hli (by omega) ⟨?_, ⟨rfl, rfl, rfl, congrArg (Blk.tree 27 1) (by rw [hsn]), trivial⟩, rfl⟩
                have e6 : LV.hs 1 (tkN (A ++ (R.take i).map (q :: ·))).length = LV.hs 1 (lnTr (tkN (A ++ (R.take (i + 1)).map (q :: ·)))).length := by rw [hsn, lnTr_len]
                have e7 : LV.hs 1 (lnTr (tkN (A ++ (R.take i).map (q :: ·)))).length = LV.hs 1 (lnTr (tkN (A ++ (R.take (i + 1)).map (q :: ·)))).length := by rw [hsn]
                repeat ((conv => whnf); first | refine ⟨rfl, e4, ?_⟩ | refine ⟨rfl, e7, ?_⟩ | refine ⟨rfl, e6, ?_⟩ | refine ⟨rfl, rfl, ?_⟩)
                trivial
            · have hiR : i = R.length := by rw [ltI_f] at g4; omega
              subst hiR
              have hend : tkN (A ++ (R.take R.length).map (q :: ·)) = tkN (lnTo ps p q (k + 1)) := by rw [List.take_length, hSt]
              have e7 : LV.hs 1 (lnTr (tkN (A ++ (R.take R.length).map (q :: ·)))).length = LV.hs 1 (lnTr (tkN (lnTo ps p q (k + 1)))).length := by rw [hend]
              subst hK2
              ((repeat ((conv => whnf); first | refine brT ?_ | refine brF ?_)); conv => whnf)
              subst hK
              refine round_endR [.old 0, .old 1] (k + 1) hlt (by omega) ⟨?_, ⟨rfl, rfl, rfl, congrArg (Blk.tree 27 1) (by rw [hend]), trivial⟩, rfl⟩
              repeat ((conv => whnf); first | refine ⟨rfl, e, ?_⟩ | refine ⟨rfl, e7, ?_⟩ | refine ⟨rfl, rfl, ?_⟩)
              trivial
        · rw [show notB true = false by simp [notB]]
          rw [c1, Bool.true_or] at hpa
          have hone : eqI (upd ps k q) 1 = true := hpa.symm
          ((repeat ((conv => whnf); first | refine brT ?_ | refine brF ?_)); conv => whnf)
          refine ⟨_, hup, ?_⟩
          ((repeat ((conv => whnf); first | refine brT ?_ | refine brF ?_)); conv => whnf)
          refine ⟨k, intLV (upd ps p k), rfl, upRow_get hlt, rfl, ?_⟩
          ((repeat ((conv => whnf); first | refine brT ?_ | refine brF ?_)); conv => whnf)
          cases e2 : ltI (upd ps p k) 0
          case true =>
            have h0 := hno (by unfold kidB; rw [show leI 0 (upd ps p k) = false by rw [ltI_t] at e2; rw [leI_f]; omega]; exact Bool.and_false _)
            have e5 : LV.hs 1 (lnTr (tkN (lnTo ps p q k))).length = LV.hs 1 (lnTr (tkN (lnTo ps p q (k + 1)))).length := by rw [h0]
            ((repeat ((conv => whnf); first | refine brT ?_ | refine brF ?_)); conv => whnf)
            subst hK
            refine round_endR [.old 0, .old 1] (k + 1) hlt (by omega) ⟨?_, ⟨rfl, rfl, rfl, congrArg (Blk.tree 27 1) (by rw [h0]), trivial⟩, rfl⟩
            repeat ((conv => whnf); first | refine ⟨rfl, e, ?_⟩ | refine ⟨rfl, e5, ?_⟩ | refine ⟨rfl, rfl, ?_⟩)
            trivial
          have hkid : kidB ps p q k = true := by unfold kidB; rw [hone, show leI 0 (upd ps p k) = true by rw [ltI_f] at e2; rw [leI_t]; omega]; rfl
          have hqk := kid_lt hp hlt hq hkid
          have ih := IH k hlt hqk
          have hSt : tkN (lnTo ps p q (k + 1)) = tkN (tkN (lnTo ps p q k) ++ (tkN (LN ps p k)).map (q :: ·)) := by rw [hS, tkN_map, tkN_app]; unfold stp; rw [hkid]
          have hsh : ∀ l ∈ tkN (LN ps p k), l.length ≤ ps.length := fun l h => (LN_short hpl hlt l (List.mem_of_mem_take h)).1
          have hAA : tkN (tkN (lnTo ps p q k)) = tkN (lnTo ps p q k) := tkN_idem _
          have hRl1 := tkN_len (LN ps p k)
          ((repeat ((conv => whnf); first | refine brT ?_ | refine brF ?_)); conv => whnf)
          refine ⟨_, ih, ?_⟩
          ((repeat ((conv => whnf); first | refine brT ?_ | refine brF ?_)); conv => whnf)
          generalize hA : tkN (lnTo ps p q k) = A at hSt hAA ⊢
          generalize hRR : tkN (LN ps p k) = R at hSt hsh hRl1 ⊢
          have hRl : (R.map natSl).length = R.length := List.length_map ..
          intro _
          ((repeat ((conv => whnf); first | refine brT ?_ | refine brF ?_)); conv => whnf)
          rw [hRl]
          refine loop_ruleR (α := Nat) [.old 0, .old 1] (fun i => [(59, .int .i64 (i : Int)), (9, .hs 1 (lnTr (tkN (A ++ (R.take i).map (q :: ·)))).length)]) (fun i => [.box (famLV ps us), .tree 27 1 (lnTr (tkN (A ++ (R.take i).map (q :: ·))))]) (fun i => R.length - i) (fun i => i ≤ R.length) 0 (Nat.zero_le _) ?_ ?_
          case refine_1 =>
            have hA0 : lnTr A = lnTr (tkN (A ++ (R.take 0).map (q :: ·))) := by simp [hAA]
            have e0 : LV.hs 1 (lnTr A).length = LV.hs 1 (lnTr (tkN (A ++ (R.take 0).map (q :: ·)))).length := by rw [← hA0]
            refine ⟨?_, ⟨rfl, rfl, rfl, congrArg (Blk.tree 27 1) hA0, trivial⟩, rfl⟩
            repeat ((conv => whnf); first | refine ⟨rfl, e0, ?_⟩ | refine ⟨rfl, rfl, ?_⟩)
            trivial
          intro i hi
          generalize hK2 : kk _ = KK2
          ((repeat ((conv => whnf); first | refine brT ?_ | refine brF ?_)); conv => whnf)
          (refine ⟨fun g4 => ?_, fun g4 => ?_⟩ <;> rw [g4])
          · have hli : i < R.length := by rw [ltI_t] at g4; omega
            have e4 := step_i hli (by unfold Go.maxLen; omega)
            have hg : (R.map natSl)[i]? = some (natSl R[i]) := by rw [List.getElem?_map, List.getElem?_eq_getElem hli]; rfl
            have hlen := hsh R[i] (List.getElem_mem hli)
            have htk : A ++ (R.take (i + 1)).map (q :: ·) = (A ++ (R.take i).map (q :: ·)) ++ [q :: R[i]] := by rw [List.take_succ_eq_append_getElem hli, List.map_append, List.append_assoc]; rfl
            generalize R[i] = r at hg hlen htk
            have hB100 := tkN_len (A ++ (R.take (i + 1)).map (q :: ·))
            ((repeat ((conv => whnf); first | refine brT ?_ | refine brF ?_)); conv => whnf)
            refine ⟨i, natSl r, rfl, hg, rfl, ?_⟩
            rw [show natSl r = .sl (r.map natLV) from rfl]
            ((repeat ((conv => whnf); first | refine brT ?_ | refine brF ?_)); conv => whnf)
            refine ⟨rfl, fun _ => ?_⟩
            ((repeat ((conv => whnf); first | refine brT ?_ | refine brF ?_)); conv => whnf)
            rw [lnTr_len]
            (refine ⟨fun g5 => ?_, fun g5 => ?_⟩ <;> rw [g5])
            · have hsn := tkN_snoc_t (y := q :: r) g5
              rw [← htk] at hsn
              ((repeat ((conv => whnf); first | refine brT ?_ | refine brF ?_)); conv => whnf)
              refine ⟨fun y hy => by (obtain ⟨x, _, rfl⟩ := List.mem_map.1 hy; rfl), ?_⟩
              ((repeat ((conv => whnf); first | refine brT ?_ | refine brF ?_)); conv => whnf)
              have hr1 : ([LV.int .i64 (q : Int)] ++ r.map natLV) = (q :: r).map natLV := rfl
              have hr2 : ([LV.int .i64 (q : Int)] ++ r.map natLV).length ≤ 41 := by rw [hr1, List.length_map, List.length_cons]; omega
              refine ⟨rfl, by unfold maxLen; omega, by show ([LV.int .i64 (q : Int)] ++ r.map natLV).length * 8 ≤ _; omega, ?_⟩
              rw [hr1]
              ((repeat ((conv => whnf); first | refine brT ?_ | refine brF ?_)); conv => whnf)
              refine ⟨rfl, ?_⟩
              have hB2 : lnTr (tkN (A ++ (R.take i).map (q :: ·))) ++ [natOw (q :: r)] = lnTr (tkN (A ++ (R.take (i + 1)).map (q :: ·))) := by rw [lnTr_snoc, ← hsn]
              have hBl : (lnTr (tkN (A ++ (R.take (i + 1)).map (q :: ·)))).length ≤ 101 := by rw [lnTr_len]; exact hB100
              ((repeat ((conv => whnf); first | refine brT ?_ | refine brF ?_)); conv => whnf)
              refine ⟨rfl, (lnTr_len _).symm, ?_, ?_, ?_⟩
              · show (lnTr (tkN (A ++ (R.take i).map (q :: ·))) ++ [natOw (q :: r)]).length ≤ _
                rw [hB2]; unfold Go.maxLen; omega
              · show (lnTr (tkN (A ++ (R.take i).map (q :: ·))) ++ [natOw (q :: r)]).length * 24 ≤ _
                rw [hB2]; omega
              ((repeat ((conv => whnf); first | refine brT ?_ | refine brF ?_)); conv => whnf)
              subst hK2
              refine round_endR [.old 0, .old 5] (i + 1) hli (by omega) ⟨?_, ⟨rfl, rfl, rfl, congrArg (Blk.tree 27 1) hB2, trivial⟩, rfl⟩
              have e6 : LV.hs 1 (lnTr (tkN (A ++ (R.take i).map (q :: ·))) ++ [natOw (q :: r)]).length = LV.hs 1 (lnTr (tkN (A ++ (R.take (i + 1)).map (q :: ·)))).length := by rw [hB2]
              repeat ((conv => whnf); first | refine ⟨rfl, e4, ?_⟩ | refine ⟨rfl, e6, ?_⟩ | refine ⟨rfl, rfl, ?_⟩)
              trivial
            · have hsn := tkN_snoc_f (y := q :: r) g5
              rw [← htk] at hsn
              ((repeat ((conv => whnf); first | refine brT ?_ | refine brF ?_)); conv => whnf)
              subst hK2
              refine round_endR [.old 0, .old 1] (i + 1) hli (by omega) ⟨?_, ⟨rfl, rfl, rfl, congrArg (Blk.tree 27 1) (by rw [hsn]), trivial⟩, rfl⟩
              have e6 : LV.hs 1 (tkN (A ++ (R.take i).map (q :: ·))).length = LV.hs 1 (lnTr (tkN (A ++ (R.take (i + 1)).map (q :: ·)))).length := by rw [hsn, lnTr_len]
              have e7 : LV.hs 1 (lnTr (tkN (A ++ (R.take i).map (q :: ·)))).length = LV.hs 1 (lnTr (tkN (A ++ (R.take (i + 1)).map (q :: ·)))).length := by rw [hsn]
              repeat ((conv => whnf); first | refine ⟨rfl, e4, ?_⟩ | refine ⟨rfl, e7, ?_⟩ | refine ⟨rfl, e6, ?_⟩ | refine ⟨rfl, rfl, ?_⟩)
              trivial
          · have hiR : i = R.length := by rw [ltI_f] at g4; omega
            subst hiR
            have hend : tkN (A ++ (R.take R.length).map (q :: ·)) = tkN (lnTo ps p q (k + 1)) := by rw [List.take_length, hSt]
            have e7 : LV.hs 1 (lnTr (tkN (A ++ (R.take R.length).map (q :: ·)))).length = LV.hs 1 (lnTr (tkN (lnTo ps p q (k + 1)))).length := by rw [hend]
            subst hK2
            ((repeat ((conv => whnf); first | refine brT ?_ | refine brF ?_)); conv => whnf)
            subst hK
            refine round_endR [.old 0, .old 1] (k + 1) hlt (by omega) ⟨?_, ⟨rfl, rfl, rfl, congrArg (Blk.tree 27 1) (by rw [hend]), trivial⟩, rfl⟩
            repeat ((conv => whnf); first | refine ⟨rfl, e, ?_⟩ | refine ⟨rfl, e7, ?_⟩ | refine ⟨rfl, rfl, ?_⟩)
            trivial
      · have hkn : k = ps.length := by rw [ltI_f] at g1; omega
        subst hkn
        subst hK
        ((repeat ((conv => whnf); first | refine brT ?_ | refine brF ?_)); conv => whnf)
        rw [hLN]
        exact ⟨[.hs 0 (lnTr (tkN (lnTo ps p q ps.length))).length], rfl, rfl, .inr ⟨[.old 1], ⟨rfl, rfl, trivial⟩, ⟨rfl, rfl, trivial⟩, rfl⟩⟩
end Go.Proofs.Ytplkockghigpdaa


namespace Go.Proofs.Ytplkockghigpdaa
open Go.Lg Go.Pm
set_option maxHeartbeats 6400000
set_option maxRecDepth 10000
set_option linter.unusedVariables false
set_option linter.unusedSimpArgs false

def lnI (l : List (List Nat)) : List (List Int) := l.map fun r => r.map fun n : Nat => (n : Int)
theorem lnTr_int (l : List (List Nat)) : lnTr l = (lnI l).map rowOw := by
  unfold lnTr lnI
  rw [List.map_map]
  refine List.map_congr_left fun r _ => ?_
  unfold natOw rowOw
  show _ = LV.own 3 1 ((r.map fun n : Nat => (n : Int)).map intLV)
  rw [List.map_map]; rfl
def dlB (ps : List Per) (us : List Uni) (q p : Int) : Bool := (hasP ps us q && hasP ps us p) && lnB ps p.toNat q.toNat
def dlN (ps : List Per) (us : List Uni) (q p : Int) : List (List Nat) := match dlB ps us q p with | true => LN ps p.toNat q.toNat | false => []
def dlR (ps : List Per) (us : List Uni) (q p : Int) : List (List Int) := lnI (dlN ps us q p)
theorem dl_impl (ps : List Per) (us : List Uni) (q p : Int) : HSpec env.P 51 [famLV ps us, .int .i64 q, .int .i64 p] [] (.tup [.hs 0 ((dlR ps us q p).map rowOw).length, .bool (dlB ps us q p)]) [.tree 27 1 ((dlR ps us q p).map rowOw)] := by
  unfold dlR
  rw [← lnTr_int]
  refine HSpec_of_code (E := env.x [112] 0) env_ok.x (fn := Try.f51) Try.func51 rfl Try.call51 _ _ _ _ ?_
  have hh := hasPeople_spec ps us q p
  cases h : hasP ps us q && hasP ps us p
  · have hB : dlB ps us q p = false := by unfold dlB; rw [h]; rfl
    have hN : dlN ps us q p = [] := by unfold dlN; rw [hB]
    rw [hB, hN]
    rw [h] at hh
    ((repeat ((conv => whnf); first | refine brT ?_ | refine brF ?_)); conv => whnf)
    refine ⟨rfl, ?_⟩
    ((repeat ((conv => whnf); first | refine brT ?_ | refine brF ?_)); conv => whnf)
    refine ⟨_, hh, ?_⟩
    ((repeat ((conv => whnf); first | refine brT ?_ | refine brF ?_)); conv => whnf)
    rw [show notB false = true by simp [notB]]
    ((repeat ((conv => whnf); first | refine brT ?_ | refine brF ?_)); conv => whnf)
    exact ⟨[.hs 0 0, .bool false], rfl, rfl, .nl [.tmp 0 [] true 27 1] [.old 2] ⟨⟨rfl, rfl, rfl, rfl, trivial⟩, ⟨rfl, rfl, trivial⟩, rfl⟩⟩
  · obtain ⟨h1, h2⟩ := Bool.and_eq_true_iff.1 h
    obtain ⟨q0, ql, hl, hpi⟩ := hasP_in h1
    obtain ⟨p0, pl, _, _⟩ := hasP_in h2
    have hf := (hasP_lt h1).2.2
    have hB : dlB ps us q p = lnB ps p.toNat q.toNat := by unfold dlB; rw [h]; rfl
    have hN : dlN ps us q p = lnR ps p.toNat q.toNat := by unfold dlN lnR; rw [hB]; cases lnB ps p.toNat q.toNat <;> rfl
    have hw := linesDown_h hpi (fam_sh hf) hl pl ps.length q.toNat ql (by omega)
    rw [Int.toNat_of_nonneg q0, Int.toNat_of_nonneg p0] at hw
    rw [hB, hN]
    rw [h] at hh
    generalize lnR ps p.toNat q.toNat = R at hw ⊢
    generalize lnB ps p.toNat q.toNat = b at hw ⊢
    ((repeat ((conv => whnf); first | refine brT ?_ | refine brF ?_)); conv => whnf)
    refine ⟨rfl, ?_⟩
    ((repeat ((conv => whnf); first | refine brT ?_ | refine brF ?_)); conv => whnf)
    refine ⟨_, hh, ?_⟩
    ((repeat ((conv => whnf); first | refine brT ?_ | refine brF ?_)); conv => whnf)
    rw [show notB true = false by simp [notB]]
    ((repeat ((conv => whnf); first | refine brT ?_ | refine brF ?_)); conv => whnf)
    refine ⟨_, climbs_f ps us hl hpi (fam_sh hf), ?_⟩
    ((repeat ((conv => whnf); first | refine brT ?_ | refine brF ?_)); conv => whnf)
    unfold upL at hw
    refine ⟨[], _, _, _, _, hw, rfl, rfl, rfl, trivial, ?_⟩
    ((repeat ((conv => whnf); first | refine brT ?_ | refine brF ?_)); conv => whnf)
    exact ⟨[.hs 0 (lnTr R).length, .bool b], rfl, rfl, .inr ⟨[.old 2], ⟨rfl, rfl, rfl, rfl, trivial⟩, ⟨rfl, rfl, trivial⟩, rfl⟩⟩
theorem dl_spec (ps : List Per) (us : List Uni) (q p : Int) : HSpec env.P 50 [famLV ps us, .int .i64 q, .int .i64 p] [] (.tup [.hs 0 ((dlR ps us q p).map rowOw).length, .bool (dlB ps us q p)]) [.tree 27 1 ((dlR ps us q p).map rowOw)] := by
  unfold dlR
  rw [← lnTr_int]
  refine HSpec_of_code (E := env.x [111] 0) env_ok.x (fn := Try.f50) Try.func50 rfl Try.call50 _ _ _ _ ?_
  cases h1 : hasP ps us q
  · have hB : dlB ps us q p = false := by unfold dlB; rw [h1]; rfl
    have hN : dlN ps us q p = [] := by unfold dlN; rw [hB]
    rw [hB, hN]
    ((repeat ((conv => whnf); first | refine brT ?_ | refine brF ?_)); conv => whnf)
    refine ⟨_, l1Has_spec ps us q, ?_⟩
    ((repeat ((conv => whnf); first | refine brT ?_ | refine brF ?_)); conv => whnf)
    rw [h1, show notB false = true by simp [notB]]
    ((repeat ((conv => whnf); first | refine brT ?_ | refine brF ?_)); conv => whnf)
    exact ⟨[.hs 0 0, .bool false], rfl, rfl, .nl [.tmp 0 [] true 27 1] [.old 1] ⟨⟨rfl, rfl, rfl, rfl, trivial⟩, ⟨rfl, rfl, trivial⟩, rfl⟩⟩
  cases h2 : hasP ps us p
  · have hB : dlB ps us q p = false := by unfold dlB; rw [h1, h2]; rfl
    have hN : dlN ps us q p = [] := by unfold dlN; rw [hB]
    rw [hB, hN]
    ((repeat ((conv => whnf); first | refine brT ?_ | refine brF ?_)); conv => whnf)
    refine ⟨_, l1Has_spec ps us q, ?_⟩
    ((repeat ((conv => whnf); first | refine brT ?_ | refine brF ?_)); conv => whnf)
    rw [h1, show notB true = false by simp [notB]]
    ((repeat ((conv => whnf); first | refine brT ?_ | refine brF ?_)); conv => whnf)
    refine ⟨_, l1Has_spec ps us p, ?_⟩
    ((repeat ((conv => whnf); first | refine brT ?_ | refine brF ?_)); conv => whnf)
    rw [h2, show notB false = true by simp [notB]]
    ((repeat ((conv => whnf); first | refine brT ?_ | refine brF ?_)); conv => whnf)
    exact ⟨[.hs 0 0, .bool false], rfl, rfl, .nl [.tmp 0 [] true 27 1] [.old 1] ⟨⟨rfl, rfl, rfl, rfl, trivial⟩, ⟨rfl, rfl, trivial⟩, rfl⟩⟩
  obtain ⟨q0, ql, hl, hpi⟩ := hasP_in h1
  obtain ⟨p0, pl, _, _⟩ := hasP_in h2
  have hf := (hasP_lt h1).2.2
  have hB : dlB ps us q p = lnB ps p.toNat q.toNat := by unfold dlB; rw [h1, h2]; rfl
  have hw := l8Lines_h us hpi (fam_sh hf) hl pl ps.length q.toNat ql (by omega)
  rw [Int.toNat_of_nonneg q0, Int.toNat_of_nonneg p0] at hw
  ((repeat ((conv => whnf); first | refine brT ?_ | refine brF ?_)); conv => whnf)
  refine ⟨_, l1Has_spec ps us q, ?_⟩
  ((repeat ((conv => whnf); first | refine brT ?_ | refine brF ?_)); conv => whnf)
  rw [h1, show notB true = false by simp [notB]]
  ((repeat ((conv => whnf); first | refine brT ?_ | refine brF ?_)); conv => whnf)
  refine ⟨_, l1Has_spec ps us p, ?_⟩
  ((repeat ((conv => whnf); first | refine brT ?_ | refine brF ?_)); conv => whnf)
  rw [h2, show notB true = false by simp [notB]]
  ((repeat ((conv => whnf); first | refine brT ?_ | refine brF ?_)); conv => whnf)
  refine ⟨[], _, _, _, _, hw, rfl, rfl, rfl, trivial, ?_⟩
  ((repeat ((conv => whnf); first | refine brT ?_ | refine brF ?_)); conv => whnf)
  refine ⟨rfl, fun _ => ?_⟩
  ((repeat ((conv => whnf); first | refine brT ?_ | refine brF ?_)); conv => whnf)
  rw [lnTr_len]
  (refine ⟨fun g => ?_, fun g => ?_⟩ <;> rw [g])
  · have hb : lnB ps p.toNat q.toNat = false := by
      rw [ltI_t] at g; unfold tkN at g; rw [List.length_take] at g
      unfold lnB; rw [leI_f]; omega
    have hN : dlN ps us q p = [] := by unfold dlN; rw [hB, hb]
    rw [hB, hN, hb]
    ((repeat ((conv => whnf); first | refine brT ?_ | refine brF ?_)); conv => whnf)
    exact ⟨[.hs 0 0, .bool false], rfl, rfl, .nl [.tmp 0 [] true 27 1] [.old 2] ⟨⟨rfl, rfl, rfl, rfl, trivial⟩, ⟨rfl, rfl, trivial⟩, rfl⟩⟩
  · have hb1 : (LN ps p.toNat q.toNat).length ≤ 100 := by
      rw [ltI_f] at g; unfold tkN at g; rw [List.length_take] at g; omega
    have hb : lnB ps p.toNat q.toNat = true := by unfold lnB; rw [leI_t]; omega
    have hN : dlN ps us q p = tkN (LN ps p.toNat q.toNat) := by
      unfold dlN; rw [hB, hb]; unfold tkN; rw [List.take_of_length_le (by omega)]
    rw [hB, hN, hb]
    generalize tkN (LN ps p.toNat q.toNat) = R
    rw [← lnTr_len R]
    ((repeat ((conv => whnf); first | refine brT ?_ | refine brF ?_)); conv => whnf)
    exact ⟨[.hs 0 (lnTr R).length, .bool true], rfl, rfl, .inr ⟨[.old 1], ⟨rfl, rfl, rfl, rfl, trivial⟩, ⟨rfl, rfl, trivial⟩, rfl⟩⟩
end Go.Proofs.Ytplkockghigpdaa


namespace Go.Proofs.Ytplkockghigpdaa
open Go.Lg
set_option maxHeartbeats 1600000
set_option maxRecDepth 10000
set_option linter.unusedVariables false
set_option linter.unusedSimpArgs false
set_option linter.unusedSectionVars false

/-! ### What is put together by keys, in the order of the first ones: over keys of any kind that a map may have -/
section
variable {κ : Type} [DecidableEq κ]
end

/-! ### Lines: by what each number stands for -/
end Go.Proofs.Ytplkockghigpdaa


namespace Go.Proofs.Ytplkockghigpdaa
open Go.Lg
set_option maxHeartbeats 3200000
set_option maxRecDepth 10000
set_option linter.unusedVariables false
set_option linter.unusedSimpArgs false

end Go.Proofs.Ytplkockghigpdaa


namespace Go.Proofs.Ytplkockghigpdaa
open Go.Lg Go.Pm
set_option maxHeartbeats 3200000
set_option maxRecDepth 10000
set_option linter.unusedVariables false
set_option linter.unusedSimpArgs false

end Go.Proofs.Ytplkockghigpdaa

namespace Go.Proofs.Ytplkockghigpdaa
open Go.Lg Go.Pm
set_option maxHeartbeats 6400000
set_option maxRecDepth 10000
set_option linter.unusedVariables false
set_option linter.unusedSimpArgs false

theorem dlR_tot (ps : List Per) (us : List Uni) (q p : Int) : tot (dlR ps us q p) ≤ 4000 := by
  unfold dlR dlN
  cases h : dlB ps us q p with
  | false => simp [lnI, tot]
  | true =>
    unfold dlB at h
    obtain ⟨h1, hb⟩ := Bool.and_eq_true_iff.1 h
    obtain ⟨h1, h2⟩ := Bool.and_eq_true_iff.1 h1
    obtain ⟨q0, ql, hl, hpi⟩ := hasP_in h1
    obtain ⟨p0, pl, _, _⟩ := hasP_in h2
    unfold lnB at hb
    rw [leI_t] at hb
    refine Nat.le_trans (tot_le (m := 40) fun r hr => ?_) (Nat.mul_le_mul_right 40 (show (lnI (LN ps p.toNat q.toNat)).length ≤ 100 from ?_))
    · unfold lnI at hr
      obtain ⟨l, hl2, rfl⟩ := List.mem_map.1 hr
      rw [List.length_map]
      have := (LN_short pl ql l hl2).1
      omega
    · unfold lnI; rw [List.length_map]; show (LN ps p.toNat q.toNat).length ≤ 100; omega
theorem law_descentLines (ps : List Per) (us : List Uni) (q p : Int) (hf : FamOK ps us) : FSpec env.P 14 [famLV ps us, .int .i64 q, .int .i64 p] (.bool true) := by
  refine FSpec_of_code (E := env.x [23, 50, 51, 27, 53] 0) env_ok.x (fn := Try.f14) Try.func14 rfl Try.call14 _ _ ?_
  have hI := dl_impl ps us q p
  have hS := dl_spec ps us q p
  have hT := dlR_tot ps us q p
  have hbb : ∀ b : Bool, notB (eqB b b) = false := fun b => by cases b <;> simp [notB, eqB]
  generalize dlR ps us q p = R at hI hS hT
  generalize dlB ps us q p = B at hI hS
  ((repeat ((conv => whnf); first | refine brT ?_ | refine brF ?_)); conv => whnf)
  refine ⟨_, szFamily_spec ps us _, ?_⟩
  ((repeat ((conv => whnf); first | refine brT ?_ | refine brF ?_)); conv => whnf)
  (refine ⟨fun h => ?_, fun h => ?_⟩ <;> rw [h])
  · ((repeat ((conv => whnf); first | refine brT ?_ | refine brF ?_)); conv => whnf); exact fin rfl
  rw [ltI_f] at h
  obtain ⟨p1, u1, s1⟩ := szFam_ok (by omega) (by omega) hf h
  ((repeat ((conv => whnf); first | refine brT ?_ | refine brF ?_)); conv => whnf)
  refine ⟨[], _, _, _, _, toFamily_hm ps us p1 u1, rfl, rfl, rfl, trivial, ?_⟩
  ((repeat ((conv => whnf); first | refine brT ?_ | refine brF ?_)); conv => whnf)
  refine ⟨[], _, _, _, _, hS, rfl, ?_⟩
  ((repeat ((conv => whnf); first | refine brT ?_ | refine brF ?_)); conv => whnf)
  refine ⟨rfl, ?_⟩
  ((repeat ((conv => whnf); first | refine brT ?_ | refine brF ?_)); conv => whnf)
  refine ⟨rfl, ?_⟩
  ((repeat ((conv => whnf); first | refine brT ?_ | refine brF ?_)); conv => whnf)
  refine ⟨rfl, rfl, ⟨rfl, flatTs_rows _, trivial⟩, ?_⟩
  ((repeat ((conv => whnf); first | refine brT ?_ | refine brF ?_)); conv => whnf)
  refine ⟨[], _, _, _, _, toFamily_hm ps us p1 u1, rfl, rfl, rfl, trivial, ?_⟩
  ((repeat ((conv => whnf); first | refine brT ?_ | refine brF ?_)); conv => whnf)
  refine ⟨[], _, _, _, _, hI, rfl, ?_⟩
  ((repeat ((conv => whnf); first | refine brT ?_ | refine brF ?_)); conv => whnf)
  refine ⟨rfl, ?_⟩
  ((repeat ((conv => whnf); first | refine brT ?_ | refine brF ?_)); conv => whnf)
  refine ⟨rfl, ?_⟩
  ((repeat ((conv => whnf); first | refine brT ?_ | refine brF ?_)); conv => whnf)
  refine ⟨rfl, rfl, ⟨rfl, flatTs_rows _, trivial⟩, ?_⟩
  ((repeat ((conv => whnf); first | refine brT ?_ | refine brF ?_)); conv => whnf)
  refine ⟨rfl, _, dms_rows _, ?_⟩
  ((repeat ((conv => whnf); first | refine brT ?_ | refine brF ?_)); conv => whnf)
  refine ⟨rfl, _, dms_rows _, ?_⟩
  ((repeat ((conv => whnf); first | refine brT ?_ | refine brF ?_)); conv => whnf)
  refine ⟨_, eqIntSS_spec R R, ?_⟩
  rw [eqRows_refl]
  ((repeat ((conv => whnf); first | refine brT ?_ | refine brF ?_)); conv => whnf)
  rw [show notB true = false by simp [notB]]
  ((repeat ((conv => whnf); first | refine brT ?_ | refine brF ?_)); conv => whnf)
  rw [hbb]
  ((repeat ((conv => whnf); first | refine brT ?_ | refine brF ?_)); conv => whnf)
  refine ⟨true, by kernel_rfl, ?_⟩
  ((repeat ((conv => whnf); first | refine brT ?_ | refine brF ?_)); conv => whnf)
  refine ⟨_, toFamily_spec ps us p1 u1, ?_⟩
  ((repeat ((conv => whnf); first | refine brT ?_ | refine brF ?_)); conv => whnf)
  refine ⟨rfl, ?_⟩
  ((repeat ((conv => whnf); first | refine brT ?_ | refine brF ?_)); conv => whnf)
  refine ⟨rfl, ?_⟩
  ((repeat ((conv => whnf); first | refine brT ?_ | refine brF ?_)); conv => whnf)
  refine ⟨_, eqFamily_spec ps ps us us, ?_⟩
  rw [eqFam_refl]
  ((repeat ((conv => whnf); first | refine brT ?_ | refine brF ?_)); conv => whnf)
  rw [show notB true = false by simp [notB]]
  ((repeat ((conv => whnf); first | refine brT ?_ | refine brF ?_)); conv => whnf)
  refine ⟨[4, 5], _, _, _, _, markFamily_hm ps us 1 (by omega), rfl, rfl, rfl, trivial, ?_⟩
  ((repeat ((conv => whnf); first | refine brT ?_ | refine brF ?_)); conv => whnf)
  rw [show ltI ((1 + 6 * ps.length + 4 * us.length : Nat) : Int) 0 = false by rw [ltI_f]; omega]
  ((repeat ((conv => whnf); first | refine brT ?_ | refine brF ?_)); conv => whnf)
  refine ⟨rfl, _, dms_rows _, ?_⟩
  ((repeat ((conv => whnf); first | refine brT ?_ | refine brF ?_)); conv => whnf)
  refine ⟨rfl, _, dms_rows _, ?_⟩
  ((repeat ((conv => whnf); first | refine brT ?_ | refine brF ?_)); conv => whnf)
  refine ⟨_, eqIntSS_spec R R, ?_⟩
  rw [eqRows_refl]
  ((repeat ((conv => whnf); first | refine brT ?_ | refine brF ?_)); conv => whnf)
  rw [show notB true = false by simp [notB]]
  ((repeat ((conv => whnf); first | refine brT ?_ | refine brF ?_)); conv => whnf)
  rw [hbb]
  ((repeat ((conv => whnf); first | refine brT ?_ | refine brF ?_)); conv => whnf)
  refine ⟨[7], _, _, _, _, markIntSS_spec R _ rfl 1 (by omega) (by omega), rfl, rfl, rfl, trivial, ?_⟩
  ((repeat ((conv => whnf); first | refine brT ?_ | refine brF ?_)); conv => whnf)
  refine ⟨by simp [markRows_len], _, dms_rows _, ?_⟩
  ((repeat ((conv => whnf); first | refine brT ?_ | refine brF ?_)); conv => whnf)
  refine ⟨_, heldIntSS_spec R 1 (by omega) (by omega), ?_⟩
  ((repeat ((conv => whnf); first | refine brT ?_ | refine brF ?_)); conv => whnf)
  rw [show ltI (1 + (tot R : Int)) 0 = false by rw [ltI_f]; omega]
  ((repeat ((conv => whnf); first | refine brT ?_ | refine brF ?_)); conv => whnf)
  rw [eqI_refl, show notB true = false by simp [notB]]
  ((repeat ((conv => whnf); first | refine brT ?_ | refine brF ?_)); conv => whnf)
  refine ⟨[], _, _, _, _, toFamily_hm ps us p1 u1, rfl, rfl, rfl, trivial, ?_⟩
  ((repeat ((conv => whnf); first | refine brT ?_ | refine brF ?_)); conv => whnf)
  refine ⟨[], _, _, _, _, hI, rfl, ?_⟩
  ((repeat ((conv => whnf); first | refine brT ?_ | refine brF ?_)); conv => whnf)
  refine ⟨rfl, ?_⟩
  ((repeat ((conv => whnf); first | refine brT ?_ | refine brF ?_)); conv => whnf)
  refine ⟨rfl, ?_⟩
  ((repeat ((conv => whnf); first | refine brT ?_ | refine brF ?_)); conv => whnf)
  refine ⟨rfl, rfl, ⟨rfl, flatTs_rows _, trivial⟩, ?_⟩
  ((repeat ((conv => whnf); first | refine brT ?_ | refine brF ?_)); conv => whnf)
  refine ⟨rfl, _, dms_rows _, ?_⟩
  ((repeat ((conv => whnf); first | refine brT ?_ | refine brF ?_)); conv => whnf)
  refine ⟨rfl, _, dms_rows _, ?_⟩
  ((repeat ((conv => whnf); first | refine brT ?_ | refine brF ?_)); conv => whnf)
  refine ⟨_, eqIntSS_spec R R, ?_⟩
  rw [eqRows_refl]
  ((repeat ((conv => whnf); first | refine brT ?_ | refine brF ?_)); conv => whnf)
  rw [show notB true = false by simp [notB]]
  ((repeat ((conv => whnf); first | refine brT ?_ | refine brF ?_)); conv => whnf)
  rw [hbb]
  ((repeat ((conv => whnf); first | refine brT ?_ | refine brF ?_)); conv => whnf)
  refine ⟨by simp [markRows_len], _, dms_rows _, ?_⟩
  ((repeat ((conv => whnf); first | refine brT ?_ | refine brF ?_)); conv => whnf)
  refine ⟨_, heldIntSS_spec R 1 (by omega) (by omega), ?_⟩
  ((repeat ((conv => whnf); first | refine brT ?_ | refine brF ?_)); conv => whnf)
  rw [show ltI (1 + (tot R : Int)) 0 = false by rw [ltI_f]; omega]
  ((repeat ((conv => whnf); first | refine brT ?_ | refine brF ?_)); conv => whnf)
  rw [eqI_refl, show notB true = false by simp [notB]]
  ((repeat ((conv => whnf); first | refine brT ?_ | refine brF ?_)); conv => whnf)
  exact fin rfl
end Go.Proofs.Ytplkockghigpdaa


namespace Go.Proofs.Ytplkockghigpdaa
open Go.Lg Go.RowKit Go.ChangeShapes Go.WideShapes Go.Deep Go.Joins
set_option linter.unusedVariables false
set_option linter.unusedSimpArgs false
set_option maxRecDepth 100000

theorem list_of {α : Type} {lv : α → LV} {Q : α → Prop} : ∀ (xs : List LV), (∀ x ∈ xs, ∃ p, x = lv p ∧ Q p) → ∃ ps : List α, xs = ps.map lv ∧ ∀ p ∈ ps, Q p
  | [], _ => ⟨[], rfl, by simp⟩
  | x :: xs, h => by
    obtain ⟨p, rfl, hp⟩ := h x (by simp)
    obtain ⟨ps, rfl, hps⟩ := list_of xs fun y hy => h y (by simp [hy])
    exact ⟨p :: ps, rfl, List.forall_mem_cons.2 ⟨hp, hps⟩⟩

section
variable {H : Type} {enc : TypeId × Value → H} {w : World}
end
end Go.Proofs.Ytplkockghigpdaa


namespace Go.Proofs.Ytplkockghigpdaa
open Go.Lg
set_option maxRecDepth 10000
set_option linter.unusedVariables false
set_option linter.unusedSimpArgs false

/-! ### A family, out of an argument's shape -/
abbrev shPer : Sh := .st [.str, .int .i64, .int .i64, .int .i64, .int .i64, .int .i64]
abbrev shUni : Sh := .st [.int .i64, .int .i64, .int .i64, .int .i64]
abbrev shFam : Sh := .st [.sl (.st [.str, .int .i64, .int .i64, .int .i64, .int .i64, .int .i64]), .sl (.st [.int .i64, .int .i64, .int .i64, .int .i64])]
theorem per_of_sh {x : LV} (h : hasSh shPer x) : ∃ p : Per, x = p.lv ∧ p.name.size ≤ maxLen := by
  simp only [hasSh] at h
  obtain ⟨xs, rfl, h⟩ := h
  match xs, h with
  | [a, b, c, d, e, f], h =>
    simp only [hasShs, hasSh] at h
    obtain ⟨⟨s, rfl, hs⟩, ⟨n1, rfl⟩, ⟨n2, rfl⟩, ⟨n3, rfl⟩, ⟨n4, rfl⟩, ⟨n5, rfl⟩, _⟩ := h
    exact ⟨⟨s, n1, n2, n3, n4, n5⟩, rfl, hs⟩
  | [], h => simp [hasShs] at h
  | [_], h => simp [hasShs] at h
  | [_, _], h => simp [hasShs] at h
  | [_, _, _], h => simp [hasShs] at h
  | [_, _, _, _], h => simp [hasShs] at h
  | [_, _, _, _, _], h => simp [hasShs] at h
  | _ :: _ :: _ :: _ :: _ :: _ :: _ :: _, h => simp [hasShs] at h
theorem uni_of_sh {x : LV} (h : hasSh shUni x) : ∃ u : Uni, x = u.lv ∧ True := by
  simp only [hasSh] at h
  obtain ⟨xs, rfl, h⟩ := h
  match xs, h with
  | [a, b, c, d], h =>
    simp only [hasShs, hasSh] at h
    obtain ⟨⟨n1, rfl⟩, ⟨n2, rfl⟩, ⟨n3, rfl⟩, ⟨n4, rfl⟩, _⟩ := h
    exact ⟨⟨n1, n2, n3, n4⟩, rfl, trivial⟩
  | [], h => simp [hasShs] at h
  | [_], h => simp [hasShs] at h
  | [_, _], h => simp [hasShs] at h
  | [_, _, _], h => simp [hasShs] at h
  | _ :: _ :: _ :: _ :: _ :: _, h => simp [hasShs] at h
theorem fam_of_sh {x : LV} (h : hasSh shFam x) : ∃ (ps : List Per) (us : List Uni), x = famLV ps us ∧ FamOK ps us := by
  simp only [hasSh] at h
  obtain ⟨xs, rfl, h⟩ := h
  match xs, h with
  | [a, b], h =>
    simp only [hasShs, hasSh] at h
    obtain ⟨⟨ys, rfl, hl, hy⟩, ⟨zs, rfl, hm, hz⟩, _⟩ := h
    obtain ⟨ps, rfl, hps⟩ := list_of (lv := Per.lv) (Q := fun p => p.name.size ≤ maxLen) ys fun y hy' => per_of_sh (by simp only [hasSh]; exact hy y hy')
    obtain ⟨us, rfl, _⟩ := list_of (lv := Uni.lv) (Q := fun _ => True) zs fun y hy' => uni_of_sh (by simp only [hasSh]; exact hz y hy')
    exact ⟨ps, us, rfl, ⟨by simpa using hl, by simpa using hm, hps⟩⟩
  | [], h => simp [hasShs] at h
  | [_], h => simp [hasShs] at h
  | _ :: _ :: _ :: _, h => simp [hasShs] at h
end Go.Proofs.Ytplkockghigpdaa

