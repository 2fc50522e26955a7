/- Contracts of functions of the program and of its model, told over readings. -/
import Derived.Test.YtbiagkccgijdlaaBWGE
namespace Go.Proofs.Ytbiagkccgijdlaa
open Go.Lg Go.Pm
set_option maxHeartbeats 3200000
set_option maxRecDepth 10000
set_option linter.unusedVariables false
set_option linter.unusedSimpArgs false

/-! ### The way up -/
def nxtP (pr : Int) (q : Per) : Int := match eqI pr 3 with
  | true => q.father
  | false => match eqI pr 4 || eqI q.father (-1) with
    | true => q.mother
    | false => q.father
def nxt (ps : List Per) (pr : Int) (q : Int) : Int := match ps[q.toNat]? with | some x => nxtP pr x | none => -1
theorem nxt_lt {ps : List Per} (hp : parsIn ps) {pr q : Int} (h0 : 0 ≤ q) (hq : q.toNat < ps.length) : -1 ≤ nxt ps pr q ∧ nxt ps pr q < q := by
  obtain ⟨h1, h2⟩ := hp q.toNat hq
  simp only [nxt, List.getElem?_eq_getElem hq, nxtP]
  unfold parIn at h1 h2
  cases eqI pr 3
  · cases eqI pr 4 || eqI ps[q.toNat].father (-1) <;> simp only <;> omega
  · simp only; omega
def upI (ps : List Per) (x : Cus) (y : Int) : Nat → Int → (Nat → Bool) × List Nat → (Nat → Bool) × List Nat
  | 0, _, S => S
  | d + 1, q, S => match leI 0 q with | true => upI ps x y d (nxt ps x.prefer q) (addI ps x y ps.length q.toNat S) | false => S
def upwO (ps : List Per) (x : Cus) (y : Int) (I : Nat → Bool) : Nat → Int → List Nat → List Nat
  | 0, _, out => out
  | d + 1, q, out => match leI 0 q with | true => upwO ps x y I d (nxt ps x.prefer q) (fldO I out (desN ps x y q.toNat)) | false => out
structure UpOk (ps : List Per) (x : Cus) (y : Int) (p : Nat) (q : Int) (S : (Nat → Bool) × List Nat) : Prop where
  ok : Ok ps (insP noI p) S
  cl : ∀ m, S.1 m = true → (q < (m : Int) ∧ clo ps x y (insP noI p) S.2 m) ∨ (m = p ∧ q = (p : Int))
theorem UpOk.step {ps : List Per} (hp : parsIn ps) {x : Cus} {y : Int} {p : Nat} {q : Int} {S : (Nat → Bool) × List Nat} (h : UpOk ps x y p q S) (h0 : 0 ≤ q) (hq : q.toNat < ps.length) :
    UpOk ps x y p (nxt ps x.prefer q) (addI ps x y ps.length q.toNat S) ∧ (addI ps x y ps.length q.toNat S).2 = fldO (insP noI p) S.2 (desN ps x y q.toNat) := by
  have r := addI_ok hp x y (insP noI p) ps.length q.toNat (by omega) S h.ok fun m hm hqm => by
    rcases h.cl m hm with ⟨_, h⟩ | ⟨rfl, h⟩
    · exact h
    · omega
  have hn := (nxt_lt hp (pr := x.prefer) h0 hq).2
  refine ⟨⟨r.ok, fun m hm => .inl ?_⟩, r.out⟩
  rcases r.new m hm with hs | hs
  · rcases h.cl m hs with ⟨h1, h2⟩ | ⟨rfl, h1⟩
    · refine ⟨by omega, ?_⟩
      rw [r.out]; exact clo_mono h2
    · refine ⟨by omega, ?_⟩
      rw [r.out]
      intro z hz
      unfold brN ownN at hz
      rcases List.mem_append.1 hz with hz | hz
      · split at hz <;> simp at hz
        subst hz
        exact .inl (by simp [insP])
      · split at hz
        · rw [show q.toNat = m by omega]
          exact fldO_in _ _ _ z hz
        · simp at hz
  · exact ⟨by omega, r.cl m hm hs⟩
theorem up_eq {ps : List Per} (hp : parsIn ps) (x : Cus) (y : Int) (p : Nat) : ∀ (d : Nat) (q : Int) (S : (Nat → Bool) × List Nat), q < ps.length → UpOk ps x y p q S → (upI ps x y d q S).2 = upwO ps x y (insP noI p) d q S.2
  | 0, q, S, _, h => rfl
  | d + 1, q, S, hq, h => by
    unfold upI upwO
    cases e : leI 0 q
    · rfl
    · rw [leI_t] at e
      obtain ⟨h1, h2⟩ := h.step hp e (by omega)
      have hn := (nxt_lt hp (pr := x.prefer) e (by omega)).2
      simp only
      rw [up_eq hp x y p d _ _ (by omega) h1, h2]
theorem UpOk.start {ps : List Per} (x : Cus) (y : Int) (p : Nat) : UpOk ps x y p (p : Int) (insP noI p, []) :=
  ⟨⟨fun q h => h, fun q h => by simp at h, List.nodup_nil, fun q h => by simp at h⟩, fun m hm => .inr (by
    simp only [insP] at hm
    split at hm
    · rename_i e; exact ⟨e, rfl⟩
    · cases hm)⟩
theorem upwO_ok {ps : List Per} (hp : parsIn ps) (x : Cus) (y : Int) (I : Nat → Bool) : ∀ (d : Nat) (q : Int) (out : List Nat), q < ps.length → out.Nodup → (∀ z ∈ out, z < ps.length) → (upwO ps x y I d q out).Nodup ∧ ∀ z ∈ upwO ps x y I d q out, z < ps.length
  | 0, q, out, _, h1, h2 => ⟨h1, h2⟩
  | d + 1, q, out, hq, h1, h2 => by
    unfold upwO
    cases e : leI 0 q
    · exact ⟨h1, h2⟩
    · rw [leI_t] at e
      have hn := (nxt_lt hp (pr := x.prefer) e (by omega)).2
      exact upwO_ok hp x y I d _ _ (by omega) (fldO_nodup I _ _ h1) (fldO_lt h2 fun z hz => (desN_mem hp x y ps.length q.toNat (by omega) z hz).2.1)

/-! ### Sets of numbers -/
theorem add_box (s : Nat) (b : Int) (hs : s < 2 ^ 64) (h0 : 0 ≤ b) (h1 : b < 64) : HSpec env.P 104 [.hp 0 0 [], .int .i64 b] [.box (uLV s)] (.tup []) [.box (uLV (s ||| 2 ^ b.toNat))] := by
  refine HSpec_of_code (E := env.x [] 1) env_ok.x (fn := Try.f104) Try.func104 rfl Try.call104 _ _ _ _ ?_
  ((repeat ((conv => whnf); first | refine brT ?_ | refine brF ?_)); conv => whnf)
  refine ⟨true, by kernel_rfl, ?_⟩
  ((repeat ((conv => whnf); first | refine brT ?_ | refine brF ?_)); conv => whnf)
  refine ⟨h0, ?_⟩
  ((repeat ((conv => whnf); first | refine brT ?_ | refine brF ?_)); conv => whnf)
  have e : LV.int .u64 (Go.Lg.orI .u64 (s : Int) (shlI .u64 1 b)) = uLV (s ||| 2 ^ b.toNat) := by rw [shlI_one h0 h1, orI_nat hs (two_lt (by omega))]; rfl
  exact ⟨[], rfl, rfl, .inl ⟨trivial, ⟨congrArg Blk.box e, trivial⟩, rfl, rfl⟩⟩
theorem setOf_spec (row : List Int) (hr : inSize row) (hm : row.length ≤ Go.maxLen) : FSpec env.P 105 [.sl (row.map intLV)] (uLV (setN row)) := by
  refine FSpec_of_code (E := env.x [104] 0) env_ok.x (fn := Try.f105) Try.func105 rfl Try.call105 _ _ ?_
  ((repeat ((conv => whnf); first | refine brT ?_ | refine brF ?_)); conv => whnf)
  intro _
  rw [List.length_map]
  ((repeat ((conv => whnf); first | refine brT ?_ | refine brF ?_)); conv => whnf)
  refine loop_rule (α := Nat) (fun k => [(8, .int .i64 (k : Int))]) (fun k => [.box (uLV (setFrom 0 (row.take k)))]) (fun k => row.length - k) (fun k => k ≤ row.length) 0 (Nat.zero_le _) ?_ ?_
  · refine ⟨?_, ⟨rfl, trivial⟩, rfl, rfl⟩
    ((repeat ((conv => whnf); refine ⟨rfl, ?_⟩)); trivial)
  rintro k hk
  ((repeat ((conv => whnf); first | refine brT ?_ | refine brF ?_)); conv => whnf)
  (refine ⟨fun h1 => ?_, fun h1 => ?_⟩ <;> rw [h1])
  · have hlt : k < row.length := by rw [ltI_t] at h1; omega
    have hb := hr row[k] (List.getElem_mem hlt)
    have e := step_i hlt hm
    have hs : setFrom 0 (row.take k) < 2 ^ 64 := setFrom_lt _ _ (by decide) fun x hx => hr x (List.mem_of_mem_take hx)
    have es : setFrom 0 (row.take (k + 1)) = setFrom 0 (row.take k) ||| 2 ^ row[k].toNat := by
      rw [List.take_succ_eq_append_getElem hlt]
      generalize row.take k = l
      generalize (0 : Nat) = z
      induction l generalizing z with
      | nil => rfl
      | cons y ys ih => simp only [List.cons_append, setFrom]; exact ih _
    ((repeat ((conv => whnf); first | refine brT ?_ | refine brF ?_)); conv => whnf)
    refine ⟨k, intLV row[k], rfl, by simp [hlt], rfl, ?_⟩
    ((repeat ((conv => whnf); first | refine brT ?_ | refine brF ?_)); conv => whnf)
    refine ⟨[0], _, _, _, _, add_box _ row[k] hs hb.1 (by omega), rfl, rfl, rfl, trivial, ?_⟩
    ((repeat ((conv => whnf); first | refine brT ?_ | refine brF ?_)); conv => whnf)
    refine round_end (k + 1) hlt (by omega) ⟨?_, ⟨congrArg (fun s => Blk.box (uLV s)) es.symm, trivial⟩, rfl, rfl⟩
    ((repeat ((conv => whnf); first | refine ⟨e, ?_⟩ | refine ⟨rfl, ?_⟩)); trivial)
  · have h3 : k = row.length := by rw [ltI_f] at h1; omega
    subst h3
    ((repeat ((conv => whnf); first | refine brT ?_ | refine brF ?_)); conv => whnf)
    exact ⟨rfl, by rw [List.take_length]; rfl, List.nodup_nil⟩
theorem setOne {n p : Nat} (hp : p < n) : setN [(p : Int)] = bitsP n (insP noI p) := by
  show 0 ||| 2 ^ ((p : Int)).toNat = _
  rw [show ((p : Int)).toNat = p from rfl, ← bitsP_none n, bitsP_add hp]
  rfl
theorem nextUp_spec (q : Per) (pr : Int) : FSpec env.P 106 [q.lv, .int .i64 pr] (.int .i64 (nxtP pr q)) := by
  obtain ⟨nm, sx, fa, mo, bo, di⟩ := q
  refine FSpec_of_code env_ok (fn := Try.f106) Try.func106 rfl Try.call106 _ _ ?_
  unfold nxtP
  ((repeat' (((repeat ((conv => whnf); first | refine brT ?_ | refine brF ?_)); conv => whnf); first | (refine And.intro ?_ ?_ <;> (intro h; rw [h]; revert h; intro _)) | (refine Exists.intro true (And.intro (a := drawB _ _ = true) (by kernel_rfl) ?_)) | (refine Exists.intro _ (And.intro () ?_)))); all_goals ((repeat ((conv => whnf); first | refine brT ?_ | refine brF ?_)); conv => whnf))
  all_goals exact ⟨rfl, by simp_all, List.nodup_nil⟩
theorem next_spec (ps : List Per) (us : List Uni) (x : Cus) (q : Nat) (hp : parsIn ps) (hq : q < ps.length) : FSpec env.P 69 [famLV ps us, x.lv, .int .i64 (q : Int)] (.int .i64 (nxt ps x.prefer (q : Int))) := by
  have hg : (ps.map Per.lv)[q]? = some ps[q].lv := by simp [hq]
  have hn : nxt ps x.prefer (q : Int) = nxtP x.prefer ps[q] := by simp [nxt, hq]
  have hfa := (hp q hq).1
  rw [hn]
  generalize ps[q] = z at hg hfa
  obtain ⟨nm, sx, fa, mo, bo, di⟩ := z
  obtain ⟨pr, yo, re⟩ := x
  have hlt : ltI fa 0 = eqI fa (-1) := by
    unfold parIn at hfa
    simp only at hfa
    rw [Bool.eq_iff_iff, ltI_t, eqI_t]
    omega
  refine FSpec_of_code env_ok (fn := Try.f69) Try.func69 rfl Try.call69 _ _ ?_
  unfold nxtP
  ((repeat ((conv => whnf); first | refine brT ?_ | refine brF ?_)); conv => whnf)
  refine ⟨q, _, rfl, hg, rfl, ?_⟩
  rw [← hlt]
  ((repeat' (((repeat ((conv => whnf); first | refine brT ?_ | refine brF ?_)); conv => whnf); first | (refine And.intro ?_ ?_ <;> (intro h; rw [h]; revert h; intro _)) | (refine Exists.intro true (And.intro (a := drawB _ _ = true) (by kernel_rfl) ?_)) | (refine Exists.intro _ (And.intro () ?_)))); all_goals ((repeat ((conv => whnf); first | refine brT ?_ | refine brF ?_)); conv => whnf))
  all_goals exact ⟨rfl, by (simp_all [notB, eqI_d]) <;> (split <;> rfl), List.nodup_nil⟩
end Go.Proofs.Ytbiagkccgijdlaa


namespace Go.Proofs.Ytbiagkccgijdlaa
open Go.Lg Go.Pm
set_option maxHeartbeats 3200000
set_option maxRecDepth 10000
set_option linter.unusedVariables false
set_option linter.unusedSimpArgs false

def sucW (ps : List Per) (us : List Uni) (x : Cus) (p y : Int) : List Nat := match cusOk x with
  | false => []
  | true => match hasP ps us p with
    | false => []
    | true => upwO ps x y (insP noI p.toNat) (ps.length + 1) p []
theorem suc_len {ps : List Per} (hp : parsIn ps) (x : Cus) (y : Int) (I : Nat → Bool) (d : Nat) {p : Int} (pl : p < ps.length) : (upwO ps x y I d p []).length ≤ ps.length := by
  obtain ⟨h1, h2⟩ := upwO_ok hp x y I d p [] pl List.nodup_nil (fun z hz => by simp at hz)
  exact nodup_lt _ _ h1 h2
theorem sucW_len (ps : List Per) (us : List Uni) (x : Cus) (p y : Int) : (sucW ps us x p y).length ≤ 80 := by
  unfold sucW
  cases cusOk x
  · simp
  · cases h : hasP ps us p
    · simp
    · obtain ⟨p0, pl, hl, hp⟩ := hasP_in h
      have := suc_len hp x y (insP noI p.toNat) (ps.length + 1) (p := p) (by omega)
      simp only
      omega
theorem succ_h {ps : List Per} {us : List Uni} (hf : famOk ps us = true) (x : Cus) (p : Nat) (y : Int) (hpl : p < ps.length) :
    HSpec env.P 70 [famLV ps us, x.lv, .int .i64 (p : Int), .int .i64 y] [] (.hs 0 ((upwO ps x y (insP noI p) (ps.length + 1) (p : Int) []).map natLV).length) [.arr 3 1 ((upwO ps x y (insP noI p) (ps.length + 1) (p : Int) []).map natLV)] := by
  refine HSpec_of_code (E := { env.x [68] 0 with tb := [88] }) (env_ok.x.tbs _) (fn := Try.f70) Try.func70 rfl Try.call70 _ _ _ _ ?_
  have h40 := fam_40 hf
  have hpar := fam_pi hf
  have hS := setOf_spec [(p : Int)] (fun b hb => by simp at hb; omega) (by show 1 ≤ _; unfold Go.maxLen; omega)
  rw [setOne hpl] at hS
  rw [← up_eq hpar x y p (ps.length + 1) (p : Int) (insP noI p, []) (by omega) (UpOk.start x y p)]
  have hU : UpOk ps x y p (p : Int) (insP noI p, []) := UpOk.start x y p
  generalize hR : upI ps x y (ps.length + 1) (p : Int) (insP noI p, []) = R
  unfold famLV Cus.lv uLV at *
  ((repeat ((conv => whnf); first | refine brT ?_ | refine brF ?_)); conv => whnf)
  refine ⟨false, 0, 0, 1, [0, 1, 2, 3], (.alt 4 (.alt 5 (.alt 6 (.one 7 (.one 8 .done)) (.one 7 (.one 6 (.one 8 .done)))) (.one 7 (.one 5 (.one 6 (.one 8 .done))))) (.one 7 (.one 4 (.one 5 (.one 6 (.one 8 .done)))))), by kernel_rfl, by kernel_rfl, ?_⟩
  ((repeat ((conv => whnf); first | refine brT ?_ | refine brF ?_)); conv => whnf)
  apply Exists.intro
  apply Exists.intro
  refine And.intro ?_ ?_
  · ((repeat ((conv => whnf); first | refine brT ?_ | refine brF ?_)); conv => whnf)
    refine And.intro ?_ ?_
    · ((repeat ((conv => whnf); first | refine brT ?_ | refine brF ?_)); conv => whnf)
      refine And.intro ?_ ?_
      · ((repeat ((conv => whnf); first | refine brT ?_ | refine brF ?_)); conv => whnf)
        refine ⟨rfl, ?_⟩
        ((repeat ((conv => whnf); first | refine brT ?_ | refine brF ?_)); conv => whnf)
        refine ⟨_, hS, ?_⟩
        ((repeat ((conv => whnf); first | refine brT ?_ | refine brF ?_)); conv => whnf)
        refine And.intro ?_ ?_
        · ((repeat ((conv => whnf); first | refine brT ?_ | refine brF ?_)); conv => whnf)
          refine Weak.idn ?_ ?_ rfl
          · ((repeat ((conv => whnf); refine ⟨rfl, ?_⟩)); trivial)
          · exact ⟨rfl, rfl, rfl, rfl, trivial⟩
        · ((repeat ((conv => whnf); first | refine brT ?_ | refine brF ?_)); conv => whnf)
          refine .inr ⟨[.old 0, .old 1, .old 2, .old 3], ?_, ⟨rfl, rfl, rfl, rfl, rfl, rfl, rfl, rfl, trivial⟩, rfl⟩
          ((repeat ((conv => whnf); refine ⟨rfl, rfl, ?_⟩)); trivial)
      · ((repeat ((conv => whnf); first | refine brT ?_ | refine brF ?_)); conv => whnf)
        refine ⟨rfl, ?_⟩
        ((repeat ((conv => whnf); first | refine brT ?_ | refine brF ?_)); conv => whnf)
        refine ⟨_, hS, ?_⟩
        ((repeat ((conv => whnf); first | refine brT ?_ | refine brF ?_)); conv => whnf)
        refine .inr ⟨[.old 0, .old 1, .old 2, .old 3], ?_, ⟨rfl, rfl, rfl, rfl, rfl, rfl, rfl, rfl, trivial⟩, rfl⟩
        ((repeat ((conv => whnf); refine ⟨rfl, rfl, ?_⟩)); trivial)
    · ((repeat ((conv => whnf); first | refine brT ?_ | refine brF ?_)); conv => whnf)
      refine ⟨rfl, ?_⟩
      ((repeat ((conv => whnf); first | refine brT ?_ | refine brF ?_)); conv => whnf)
      refine ⟨_, hS, ?_⟩
      ((repeat ((conv => whnf); first | refine brT ?_ | refine brF ?_)); conv => whnf)
      refine .inr ⟨[.old 0, .old 1, .old 3, .old 2], ?_, ⟨rfl, rfl, rfl, rfl, rfl, rfl, rfl, rfl, trivial⟩, rfl⟩
      ((repeat ((conv => whnf); refine ⟨rfl, rfl, ?_⟩)); trivial)
  ((repeat ((conv => whnf); first | refine brT ?_ | refine brF ?_)); conv => whnf)
  refine ⟨rfl, rfl, _, _, _, rfl, rfl, rfl, rfl, ?_⟩
  ((repeat ((conv => whnf); first | refine brT ?_ | refine brF ?_)); conv => whnf)
  refine loop_ruleN (α := Nat × Int × ((Nat → Bool) × List Nat)) [.row 3 [0, 4] 3 1] [.old 0, .old 1, .old 2, .old 3] (fun s => [(10, .int .i64 s.2.1)])
    (fun s => [.box (famLV ps us), .box x.lv, .arr 3 1 [.int .i64 (p : Int)], .tree 88 8 [sucLV ps us x y s.2.2]]) (fun s => s.1)
    (fun s => upI ps x y s.1 s.2.1 s.2.2 = R ∧ UpOk ps x y p s.2.1 s.2.2 ∧ s.2.1 < (s.1 : Int) ∧ -1 ≤ s.2.1 ∧ s.2.1 < (ps.length : Int)) (ps.length + 1, (p : Int), (insP noI p, [])) ⟨hR, hU, by simp only; omega, by simp only; omega, by simp only; omega⟩ ?_ ?_
  · refine ⟨?_, ⟨rfl, rfl, rfl, rfl, rfl, rfl, rfl, rfl, trivial⟩, rfl⟩
    ((repeat ((conv => whnf); refine ⟨rfl, rfl, ?_⟩)); trivial)
  rintro ⟨d, q, S⟩ ⟨i1, i2, i3, i4, i5⟩
  simp only at i1 i2 i3 i4 i5
  generalize hK : kk _ = KK
  unfold famLV Cus.lv
  ((repeat ((conv => whnf); first | refine brT ?_ | refine brF ?_)); conv => whnf)
  cases e0 : eqI q (-1)
  · rw [show notB false = true by simp [notB]]
    rw [eqI_f] at e0
    obtain ⟨m, rfl⟩ : ∃ m : Nat, q = (m : Int) := ⟨q.toNat, by omega⟩
    obtain ⟨d, rfl⟩ : ∃ d' : Nat, d = d' + 1 := ⟨d - 1, by omega⟩
    have hml : m < ps.length := by omega
    obtain ⟨u1, u2⟩ := i2.step hpar (by omega) (by omega)
    have hn := nxt_lt hpar (pr := x.prefer) (q := (m : Int)) (by omega) (by omega)
    have hst : upI ps x y d (nxt ps x.prefer (m : Int)) (addI ps x y ps.length m S) = R := by
      rw [← i1]
      show _ = upI ps x y (d + 1) (m : Int) S
      rw [upI, show leI 0 (m : Int) = true by rw [leI_t]; omega]
      rfl
    have hB := addBelow_h hf x y (insP noI p) ps.length m (by omega) hml S i2.ok fun m' hm hqm => by
      rcases i2.cl m' hm with ⟨_, h⟩ | ⟨rfl, h⟩
      · exact h
      · omega
    have hg : (ps.map Per.lv)[m]? = some ps[m].lv := by simp [hml]
    have hnx : nxt ps x.prefer (m : Int) = nxtP x.prefer ps[m] := by simp [nxt, hml]
    have hN := nextUp_spec ps[m] x.prefer
    rw [← hnx] at hN
    clear hnx
    generalize ps[m] = z at hg hN
    obtain ⟨nm, sx, fa, mo, bo, di⟩ := z
    unfold sucLV famLV Cus.lv uLV at hB ⊢
    ((repeat ((conv => whnf); first | refine brT ?_ | refine brF ?_)); conv => whnf)
    refine ⟨[3], _, _, _, _, hB, rfl, rfl, rfl, trivial, ?_⟩
    ((repeat ((conv => whnf); first | refine brT ?_ | refine brF ?_)); conv => whnf)
    refine ⟨true, by kernel_rfl, ?_⟩
    ((repeat ((conv => whnf); first | refine brT ?_ | refine brF ?_)); conv => whnf)
    refine ⟨m, _, rfl, hg, rfl, ?_⟩
    ((repeat ((conv => whnf); first | refine brT ?_ | refine brF ?_)); conv => whnf)
    refine ⟨_, hN, ?_⟩
    ((repeat ((conv => whnf); first | refine brT ?_ | refine brF ?_)); conv => whnf)
    subst hK
    refine round_endR [.old 0, .old 1, .old 2, .old 3] (d, nxt ps x.prefer (m : Int), addI ps x y ps.length m S) ⟨hst, u1, by simp only; omega, by simp only; omega, by simp only; omega⟩ (by simp only; omega) ⟨?_, ⟨rfl, rfl, rfl, rfl, rfl, rfl, rfl, rfl, trivial⟩, rfl⟩
    ((repeat ((conv => whnf); refine ⟨rfl, rfl, ?_⟩)); trivial)
  · rw [show notB true = false by simp [notB]]
    rw [eqI_t] at e0
    subst e0
    have hS : S = R := by
      rw [← i1]
      cases d with
      | zero => rfl
      | succ d => rw [upI, show leI 0 (-1) = false by rw [leI_f]; omega]
    subst hS
    subst hK
    unfold sucLV famLV Cus.lv uLV
    ((repeat ((conv => whnf); first | refine brT ?_ | refine brF ?_)); conv => whnf)
    refine ⟨rfl, by simp, _, rfl, rfl, by simp, ?_⟩
    ((repeat ((conv => whnf); first | refine brT ?_ | refine brF ?_)); conv => whnf)
    refine ⟨rfl, _, _, rfl, rfl, ?_⟩
    ((repeat ((conv => whnf); first | refine brT ?_ | refine brF ?_)); conv => whnf)
    exact ⟨[.hs 0 (S.2.map natLV).length], rfl, rfl, .inr ⟨[.old 4], ⟨rfl, rfl, trivial⟩, ⟨rfl, rfl, trivial⟩, rfl⟩⟩
end Go.Proofs.Ytbiagkccgijdlaa


namespace Go.Proofs.Ytbiagkccgijdlaa
open Go.Lg Go.Pm
set_option maxHeartbeats 3200000
set_option maxRecDepth 10000
set_option linter.unusedVariables false
set_option linter.unusedSimpArgs false

theorem suc_impl (ps : List Per) (us : List Uni) (x : Cus) (p y : Int) : HSpec env.P 32 [famLV ps us, x.lv, .int .i64 p, .int .i64 y] [] (.hs 0 ((sucW ps us x p y).map natLV).length) [.arr 3 1 ((sucW ps us x p y).map natLV)] := by
  refine HSpec_of_code (E := env.x [70] 0) env_ok.x (fn := Try.f32) Try.func32 rfl Try.call32 _ _ _ _ ?_
  have h1 := cus_impl x
  have hO : hasP ps us p = true → HSpec env.P 70 [famLV ps us, x.lv, .int .i64 p, .int .i64 y] [] (.hs 0 ((upwO ps x y (insP noI p.toNat) (ps.length + 1) p []).map natLV).length) [.arr 3 1 ((upwO ps x y (insP noI p.toNat) (ps.length + 1) p []).map natLV)] := fun h => by
    obtain ⟨p0, pl, hl, _⟩ := hasP_in h
    have hB := succ_h (hasP_lt h).2.2 x p.toNat y pl
    rw [show ((p.toNat : Nat) : Int) = p by omega] at hB
    exact hB
  unfold sucW
  generalize cusOk x = b at h1 ⊢
  generalize upwO ps x y (insP noI p.toNat) (ps.length + 1) p [] = L at hO ⊢
  obtain ⟨pr, yo, re⟩ := x
  ((repeat ((conv => whnf); first | refine brT ?_ | refine brF ?_)); conv => whnf)
  refine ⟨_, h1, ?_⟩
  ((repeat ((conv => whnf); first | refine brT ?_ | refine brF ?_)); conv => whnf)
  cases b
  · rw [show notB false = true by simp [notB]]
    ((repeat ((conv => whnf); first | refine brT ?_ | refine brF ?_)); conv => whnf)
    exact ⟨[.hs 0 0], rfl, rfl, .nl [.tmp 0 [] false 3 1] [.old 2] ⟨⟨rfl, rfl, trivial⟩, ⟨rfl, rfl, trivial⟩, rfl⟩⟩
  rw [show notB true = false by simp [notB]]
  ((repeat ((conv => whnf); first | refine brT ?_ | refine brF ?_)); conv => whnf)
  refine ⟨_, hasPerson_spec ps us p, ?_⟩
  ((repeat ((conv => whnf); first | refine brT ?_ | refine brF ?_)); conv => whnf)
  cases h : hasP ps us p
  · rw [show notB false = true by simp [notB]]
    ((repeat ((conv => whnf); first | refine brT ?_ | refine brF ?_)); conv => whnf)
    exact ⟨[.hs 0 0], rfl, rfl, .nl [.tmp 0 [] false 3 1] [.old 2] ⟨⟨rfl, rfl, trivial⟩, ⟨rfl, rfl, trivial⟩, rfl⟩⟩
  rw [show notB true = false by simp [notB]]
  ((repeat ((conv => whnf); first | refine brT ?_ | refine brF ?_)); conv => whnf)
  refine ⟨[], _, _, _, _, hO h, rfl, rfl, rfl, trivial, ?_⟩
  ((repeat ((conv => whnf); first | refine brT ?_ | refine brF ?_)); conv => whnf)
  exact ⟨[.hs 0 (L.map natLV).length], rfl, rfl, .inr ⟨[.old 2], ⟨rfl, rfl, trivial⟩, ⟨rfl, rfl, trivial⟩, rfl⟩⟩
theorem suc_spec (ps : List Per) (us : List Uni) (x : Cus) (p y : Int) : HSpec env.P 31 [famLV ps us, x.lv, .int .i64 p, .int .i64 y] [] (.hs 0 ((sucW ps us x p y).map natLV).length) [.arr 3 1 ((sucW ps us x p y).map natLV)] := by
  refine HSpec_of_code (E := env.x [67] 0) env_ok.x (fn := Try.f31) Try.func31 rfl Try.call31 _ _ _ _ ?_
  have h1 := cus_spec x
  have hP' : (ps.map Per.lv).length = ps.length := List.length_map ..
  unfold sucW
  generalize cusOk x = b at h1 ⊢
  unfold famLV Cus.lv at *
  ((repeat ((conv => whnf); first | refine brT ?_ | refine brF ?_)); conv => whnf)
  refine ⟨_, h1, ?_⟩
  ((repeat ((conv => whnf); first | refine brT ?_ | refine brF ?_)); conv => whnf)
  cases b
  · rw [show notB false = true by simp [notB]]
    ((repeat ((conv => whnf); first | refine brT ?_ | refine brF ?_)); conv => whnf)
    exact ⟨[.hs 0 0], rfl, rfl, .nl [.tmp 0 [] false 3 1] [.old 2] ⟨⟨rfl, rfl, trivial⟩, ⟨rfl, rfl, trivial⟩, rfl⟩⟩
  rw [show notB true = false by simp [notB]]
  ((repeat ((conv => whnf); first | refine brT ?_ | refine brF ?_)); conv => whnf)
  have hP := l1Has_spec ps us p
  unfold famLV at hP
  refine ⟨_, hP, ?_⟩
  ((repeat ((conv => whnf); first | refine brT ?_ | refine brF ?_)); conv => whnf)
  cases h : hasP ps us p
  · rw [show notB false = true by simp [notB]]
    ((repeat ((conv => whnf); first | refine brT ?_ | refine brF ?_)); conv => whnf)
    exact ⟨[.hs 0 0], rfl, rfl, .nl [.tmp 0 [] false 3 1] [.old 2] ⟨⟨rfl, rfl, trivial⟩, ⟨rfl, rfl, trivial⟩, rfl⟩⟩
  rw [show notB true = false by simp [notB]]
  obtain ⟨p0, pl, h40, hpar⟩ := hasP_in h
  have hf := (hasP_lt h).2.2
  obtain ⟨m, rfl⟩ : ∃ m : Nat, p = (m : Int) := ⟨p.toNat, by omega⟩
  rw [show ((m : Int)).toNat = m from rfl] at pl
  generalize hR : upwO ps x y (insP noI ((m : Int)).toNat) (ps.length + 1) (m : Int) [] = R
  rw [show ((m : Int)).toNat = m from rfl] at hR
  have hs0 : (List.replicate ps.length (LV.bool false)).set m (.bool true) = mkL ps.length (seenB (insP noI m) []) := by
    rw [← mkL_none]
    exact mkL_set fun j _ => by simp [seenB, insP, noI]
  have hrep : (List.replicate ps.length (LV.bool false)).length = ps.length := List.length_replicate
  have hgm : (List.replicate ps.length (LV.bool false))[m]? = some (.bool false) := by simp [pl]
  ((repeat ((conv => whnf); first | refine brT ?_ | refine brF ?_)); conv => whnf)
  intro _
  rw [hP']
  ((repeat ((conv => whnf); first | refine brT ?_ | refine brF ?_)); conv => whnf)
  refine ⟨ps.length, rfl, rfl, by show 1 * ps.length ≤ _; omega, by unfold Go.maxLen; omega, rfl, by decide, ?_⟩
  ((repeat ((conv => whnf); first | refine brT ?_ | refine brF ?_)); conv => whnf)
  refine ⟨hrep.symm, rfl, m, rfl, by omega, ?_⟩
  ((repeat ((conv => whnf); first | refine brT ?_ | refine brF ?_)); conv => whnf)
  refine ⟨hrep.symm, m, [], _, rfl, getP1 hgm, rfl, rfl, rfl, mkL ps.length (seenB (insP noI m) []), by rw [hgm]; exact hs0, ?_⟩
  ((repeat ((conv => whnf); first | refine brT ?_ | refine brF ?_)); conv => whnf)
  refine loop_ruleR (α := Nat × Int × List Nat) [.old 0, .old 1, .old 2, .old 3] (fun s => [(11, .int .i64 s.2.1), (28, .undef), (10, .hs 3 (s.2.2.map natLV).length)])
    (fun s => [.box (famLV ps us), .box x.lv, .arr 4 1 (mkL ps.length (seenB (insP noI m) s.2.2)), .arr 3 1 (s.2.2.map natLV)]) (fun s => s.1)
    (fun s => upwO ps x y (insP noI m) s.1 s.2.1 s.2.2 = R ∧ s.2.2.Nodup ∧ (∀ z ∈ s.2.2, z < ps.length) ∧ s.2.1 < (s.1 : Int) ∧ -1 ≤ s.2.1 ∧ s.2.1 < (ps.length : Int)) (ps.length + 1, (m : Int), []) ⟨hR, List.nodup_nil, fun z hz => by simp at hz, by simp only; omega, by simp only; omega, by simp only; omega⟩ ?_ ?_
  · refine ⟨?_, ⟨rfl, rfl, rfl, rfl, rfl, rfl, rfl, rfl, trivial⟩, rfl⟩
    ((repeat ((conv => whnf); refine ⟨rfl, rfl, ?_⟩)); trivial)
  rintro ⟨d, q, out⟩ ⟨i1, i2, i2', i3, i4, i5⟩
  simp only at i1 i2 i2' i3 i4 i5
  generalize hK : kk _ = KK
  unfold famLV Cus.lv
  ((repeat ((conv => whnf); first | refine brT ?_ | refine brF ?_)); conv => whnf)
  cases e0 : leI 0 q
  · rw [leI_f] at e0
    have hS : out = R := by
      rw [← i1]
      cases d with
      | zero => rfl
      | succ d => rw [upwO, show leI 0 q = false by rw [leI_f]; omega]
    subst hS
    subst hK
    ((repeat ((conv => whnf); first | refine brT ?_ | refine brF ?_)); conv => whnf)
    exact ⟨[.hs 0 (out.map natLV).length], rfl, rfl, .inr ⟨[.old 3], ⟨rfl, rfl, trivial⟩, ⟨rfl, rfl, trivial⟩, rfl⟩⟩
  · rw [leI_t] at e0
    obtain ⟨k, rfl⟩ : ∃ k : Nat, q = (k : Int) := ⟨q.toNat, by omega⟩
    obtain ⟨d, rfl⟩ : ∃ d' : Nat, d = d' + 1 := ⟨d - 1, by omega⟩
    have hkl : k < ps.length := by omega
    have hn := nxt_lt hpar (pr := x.prefer) (q := (k : Int)) (by omega) (by omega)
    have hst : upwO ps x y (insP noI m) d (nxt ps x.prefer (k : Int)) (fldO (insP noI m) out (desN ps x y k)) = R := by
      rw [← i1]
      show _ = upwO ps x y (insP noI m) (d + 1) (k : Int) out
      rw [upwO, show leI 0 (k : Int) = true by rw [leI_t]; omega]
      rfl
    have hB := below_h hf x y (insP noI m) ps.length k (by omega) hkl out i2 i2'
    have hN := next_spec ps us x k hpar hkl
    unfold famLV Cus.lv at hB hN
    ((repeat ((conv => whnf); first | refine brT ?_ | refine brF ?_)); conv => whnf)
    refine ⟨[2, 3], _, _, _, _, hB, rfl, rfl, rfl, trivial, ?_⟩
    ((repeat ((conv => whnf); first | refine brT ?_ | refine brF ?_)); conv => whnf)
    refine ⟨_, hN, ?_⟩
    ((repeat ((conv => whnf); first | refine brT ?_ | refine brF ?_)); conv => whnf)
    subst hK
    refine round_endR [.old 0, .old 1, .old 2, .old 4] (d, nxt ps x.prefer (k : Int), fldO (insP noI m) out (desN ps x y k))
      ⟨hst, fldO_nodup _ _ _ i2, fldO_lt i2' fun z hz => (desN_mem hpar x y ps.length k (by omega) z hz).2.1, by simp only; omega, by simp only; omega, by simp only; omega⟩ (by simp only; omega) ⟨?_, ⟨rfl, rfl, rfl, rfl, rfl, rfl, rfl, rfl, trivial⟩, rfl⟩
    ((repeat ((conv => whnf); refine ⟨rfl, rfl, ?_⟩)); trivial)
theorem law_successionOrder (ps : List Per) (us : List Uni) (x : Cus) (p y : Int) (hf : FamOK ps us) : FSpec env.P 8 [famLV ps us, x.lv, .int .i64 p, .int .i64 y] (.bool true) := by
  have hI := ints_h (suc_impl ps us x p y)
  have hS := ints_f (ints_h (suc_spec ps us x p y))
  have hF := ints_f hI
  have hl : (castL (sucW ps us x p y)).length ≤ 1048576 := by
    rw [castL_len]
    exact Nat.le_trans (sucW_len ps us x p y) (by omega)
  have hT := toCus_spec x
  generalize castL (sucW ps us x p y) = R at hI hS hF hl
  obtain ⟨pr, yo, re⟩ := x
  refine FSpec_of_code (E := env.x [22, 32, 26, 27] 0) env_ok.x (fn := Try.f8) Try.func8 rfl Try.call8 _ _ ?_
  ((repeat ((conv => whnf); first | refine brT ?_ | refine brF ?_)); conv => whnf)
  refine ⟨_, szFamily_spec ps us _, ?_⟩
  ((repeat ((conv => whnf); first | refine brT ?_ | refine brF ?_)); conv => whnf)
  (refine ⟨fun h => ?_, fun h => ?_⟩ <;> rw [h])
  · ((repeat ((conv => whnf); first | refine brT ?_ | refine brF ?_)); conv => whnf); exact fin rfl
  rw [ltI_f] at h
  obtain ⟨p1, u1, s1⟩ := szFam_ok (by omega) (by omega) hf h
  ((repeat ((conv => whnf); first | refine brT ?_ | refine brF ?_)); conv => whnf)
  refine ⟨true, by kernel_rfl, ?_⟩
  ((repeat ((conv => whnf); first | refine brT ?_ | refine brF ?_)); conv => whnf)
  refine ⟨_, toFamily_spec ps us p1 u1, ?_⟩
  ((repeat ((conv => whnf); first | refine brT ?_ | refine brF ?_)); conv => whnf)
  refine ⟨_, hT, ?_⟩
  ((repeat ((conv => whnf); first | refine brT ?_ | refine brF ?_)); conv => whnf)
  refine ⟨_, hS, ?_⟩
  rw [show flatT (rowOw R) = true from flat_ints R]
  ((repeat ((conv => whnf); first | refine brT ?_ | refine brF ?_)); conv => whnf)
  refine ⟨[], _, _, _, _, toFamily_hm ps us p1 u1, rfl, rfl, rfl, trivial, ?_⟩
  ((repeat ((conv => whnf); first | refine brT ?_ | refine brF ?_)); conv => whnf)
  refine ⟨false, 0, 0, 0, [0, 1, 3, 4], (.one 2 (.one 5 (.one 6 .done))), by kernel_rfl, ?_⟩
  ((repeat ((conv => whnf); first | refine brT ?_ | refine brF ?_)); conv => whnf)
  apply Exists.intro; apply Exists.intro
  refine And.intro ?_ ?_
  · ((repeat ((conv => whnf); first | refine brT ?_ | refine brF ?_)); conv => whnf)
    refine ⟨_, hT, ?_⟩
    ((repeat ((conv => whnf); first | refine brT ?_ | refine brF ?_)); conv => whnf)
    refine ⟨_, _, _, _, hI, rfl, rfl, rfl, rfl, rfl, ⟨rfl, flats_ints _, trivial⟩, ?_⟩
    ((repeat ((conv => whnf); first | refine brT ?_ | refine brF ?_)); conv => whnf)
    refine Weak.idn ?_ ?_ rfl
    · ((repeat ((conv => whnf); refine ⟨rfl, ?_⟩)); trivial)
    · exact ⟨rfl, rfl, rfl, rfl, rfl, rfl, trivial⟩
  ((repeat ((conv => whnf); first | refine brT ?_ | refine brF ?_)); conv => whnf)
  refine ⟨rfl, ?_⟩
  ((repeat ((conv => whnf); first | refine brT ?_ | refine brF ?_)); conv => whnf)
  refine ⟨_, eqIntS_spec R R, ?_⟩
  rw [eqIntS_refl]
  ((repeat ((conv => whnf); first | refine brT ?_ | refine brF ?_)); conv => whnf)
  rw [show notB true = false by simp [notB]]
  ((repeat ((conv => whnf); first | refine brT ?_ | refine brF ?_)); conv => whnf)
  refine ⟨true, by kernel_rfl, ?_⟩
  ((repeat ((conv => whnf); first | refine brT ?_ | refine brF ?_)); conv => whnf)
  refine ⟨_, toFamily_spec ps us p1 u1, ?_⟩
  ((repeat ((conv => whnf); first | refine brT ?_ | refine brF ?_)); conv => whnf)
  refine ⟨rfl, ?_⟩
  ((repeat ((conv => whnf); first | refine brT ?_ | refine brF ?_)); conv => whnf)
  refine ⟨rfl, ?_⟩
  ((repeat ((conv => whnf); first | refine brT ?_ | refine brF ?_)); conv => whnf)
  refine ⟨_, eqFamily_spec ps ps us us, ?_⟩
  rw [eqFam_refl]
  ((repeat ((conv => whnf); first | refine brT ?_ | refine brF ?_)); conv => whnf)
  rw [show notB true = false by simp [notB]]
  ((repeat ((conv => whnf); first | refine brT ?_ | refine brF ?_)); conv => whnf)
  refine ⟨[2, 3], _, _, _, _, markFamily_hm ps us 1 (by omega), rfl, rfl, rfl, trivial, ?_⟩
  ((repeat ((conv => whnf); first | refine brT ?_ | refine brF ?_)); conv => whnf)
  rw [show ltI ((1 + 6 * ps.length + 4 * us.length : Nat) : Int) 0 = false by rw [ltI_f]; omega]
  ((repeat ((conv => whnf); first | refine brT ?_ | refine brF ?_)); conv => whnf)
  refine ⟨rfl, ?_⟩
  ((repeat ((conv => whnf); first | refine brT ?_ | refine brF ?_)); conv => whnf)
  refine ⟨_, eqIntS_spec R R, ?_⟩
  rw [eqIntS_refl]
  ((repeat ((conv => whnf); first | refine brT ?_ | refine brF ?_)); conv => whnf)
  rw [show notB true = false by simp [notB]]
  ((repeat ((conv => whnf); first | refine brT ?_ | refine brF ?_)); conv => whnf)
  refine ⟨[5], _, _, _, _, markIntS_spec R _ rfl 1 (by omega) (by omega), rfl, rfl, rfl, trivial, ?_⟩
  ((repeat ((conv => whnf); first | refine brT ?_ | refine brF ?_)); conv => whnf)
  refine ⟨by simp [marks_len], ?_⟩
  ((repeat ((conv => whnf); first | refine brT ?_ | refine brF ?_)); conv => whnf)
  refine ⟨_, heldIntS_spec 1 R.length (by omega) (by omega), ?_⟩
  ((repeat ((conv => whnf); first | refine brT ?_ | refine brF ?_)); conv => whnf)
  rw [show ltI (1 + (R.length : Int)) 0 = false by rw [ltI_f]; omega]
  ((repeat ((conv => whnf); first | refine brT ?_ | refine brF ?_)); conv => whnf)
  rw [show notB (eqI (1 + (R.length : Int)) (1 + (R.length : Int))) = false by simp [notB, eqI_refl]]
  ((repeat ((conv => whnf); first | refine brT ?_ | refine brF ?_)); conv => whnf)
  refine ⟨true, by kernel_rfl, ?_⟩
  ((repeat ((conv => whnf); first | refine brT ?_ | refine brF ?_)); conv => whnf)
  refine ⟨_, toFamily_spec ps us p1 u1, ?_⟩
  ((repeat ((conv => whnf); first | refine brT ?_ | refine brF ?_)); conv => whnf)
  refine ⟨_, hT, ?_⟩
  ((repeat ((conv => whnf); first | refine brT ?_ | refine brF ?_)); conv => whnf)
  refine ⟨_, hF, ?_⟩
  rw [show flatT (rowOw R) = true from flat_ints R]
  ((repeat ((conv => whnf); first | refine brT ?_ | refine brF ?_)); conv => whnf)
  refine ⟨_, eqIntS_spec R R, ?_⟩
  rw [eqIntS_refl]
  ((repeat ((conv => whnf); first | refine brT ?_ | refine brF ?_)); conv => whnf)
  rw [show notB true = false by simp [notB]]
  ((repeat ((conv => whnf); first | refine brT ?_ | refine brF ?_)); conv => whnf)
  refine ⟨by simp [marks_len], ?_⟩
  ((repeat ((conv => whnf); first | refine brT ?_ | refine brF ?_)); conv => whnf)
  refine ⟨_, heldIntS_spec 1 R.length (by omega) (by omega), ?_⟩
  ((repeat ((conv => whnf); first | refine brT ?_ | refine brF ?_)); conv => whnf)
  rw [show ltI (1 + (R.length : Int)) 0 = false by rw [ltI_f]; omega]
  ((repeat ((conv => whnf); first | refine brT ?_ | refine brF ?_)); conv => whnf)
  rw [show notB (eqI (1 + (R.length : Int)) (1 + (R.length : Int))) = false by simp [notB, eqI_refl]]
  ((repeat ((conv => whnf); first | refine brT ?_ | refine brF ?_)); conv => whnf)
  exact fin rfl
end Go.Proofs.Ytbiagkccgijdlaa

