/- Contracts of functions of the program and of its model, told over readings. -/
import Derived.Test.YtbiagkccgijdlaaGreatAWGB
import Derived.Test.YtbiagkccgijdlaaGreatAWGE
import Derived.Test.YtbiagkccgijdlaaGreatAWGA
import Derived.Test.YtbiagkccgijdlaaGreatALgW
import Derived.Test.YtbiagkccgijdlaaGreatAWGC
namespace Go.Proofs.YtbiagkccgijdlaaGreat
open Go.Lg
set_option maxHeartbeats 1600000
set_option maxRecDepth 10000
set_option linter.unusedVariables false
set_option linter.unusedSimpArgs false

/-! ### Rows of holders: two numbers each, as pairs are -/
theorem eqHolder_spec (p q : Pr) : FSpec env.P 31 [p.lv, q.lv] (.bool (p.eq q)) := by
  refine FSpec_of_code env_ok (fn := Tryz.f31) Tryz.func31 rfl Tryz.call31 _ _ ?_
  ((repeat' (((repeat ((conv => whnf); first | refine brT ?_ | refine brF ?_)); conv => whnf); (refine And.intro ?_ ?_ <;> (intro h; rw [h]; revert h; intro _)))); all_goals ((repeat ((conv => whnf); first | refine brT ?_ | refine brF ?_)); conv => whnf))
  all_goals (refine fin ?_; simp_all [Pr.eq, notB])
theorem eqHolderS_spec (ps qs : List Pr) : FSpec env.P 10 [.sl (ps.map Pr.lv), .sl (qs.map Pr.lv)] (.bool (eqList Pr.eq ps qs)) := by
  refine FSpec_of_code env_ok (fn := Tryz.f10) Tryz.func10 rfl Tryz.call10 _ _ ?_
  ((repeat ((conv => whnf); first | refine brT ?_ | refine brF ?_)); conv => whnf)
  intro hp
  ((repeat ((conv => whnf); first | refine brT ?_ | refine brF ?_)); conv => whnf)
  intro hq
  ((repeat ((conv => whnf); first | refine brT ?_ | refine brF ?_)); conv => whnf)
  (refine ⟨fun h => ?_, fun h => ?_⟩ <;> rw [h])
  · ((repeat ((conv => whnf); first | refine brT ?_ | refine brF ?_)); conv => whnf)
    refine fin ?_
    rw [notB_t] at h
    rw [eqList_len (eqI_nolen h)]
  rw [notB_f] at h
  have hl := eqI_len h
  have hp' : ps.length ≤ Go.maxLen := by simpa using hp
  ((repeat ((conv => whnf); first | refine brT ?_ | refine brF ?_)); conv => whnf)
  refine loop_rule (α := Nat) (fun k => [(5, .int .i64 (k : Int))]) (fun _ => []) (fun k => ps.length - k) (fun k => k ≤ ps.length ∧ eqTo Pr.eq ps qs k) 0 ⟨Nat.zero_le _, fun _ _ _ h => absurd h (Nat.not_lt_zero _)⟩ ?_ ?_
  · refine ⟨?_, trivial, rfl, rfl⟩
    ((repeat ((conv => whnf); refine ⟨rfl, ?_⟩)); trivial)
  rintro k ⟨hk, he⟩
  ((repeat ((conv => whnf); first | refine brT ?_ | refine brF ?_)); conv => whnf)
  intro _
  ((repeat ((conv => whnf); first | refine brT ?_ | refine brF ?_)); conv => whnf)
  (refine ⟨fun h1 => ?_, fun h1 => ?_⟩ <;> rw [h1])
  · have hlt : k < ps.length := by rw [ltI_t] at h1; simp at h1; omega
    have hlt2 : k < qs.length := by omega
    ((repeat ((conv => whnf); first | refine brT ?_ | refine brF ?_)); conv => whnf)
    refine ⟨true, by kernel_rfl, ?_⟩
    ((repeat ((conv => whnf); first | refine brT ?_ | refine brF ?_)); conv => whnf)
    refine ⟨k, ps[k].lv, rfl, by simp [hlt], rfl, ?_⟩
    ((repeat ((conv => whnf); first | refine brT ?_ | refine brF ?_)); conv => whnf)
    refine ⟨k, qs[k].lv, rfl, by simp [hlt2], rfl, ?_⟩
    ((repeat ((conv => whnf); first | refine brT ?_ | refine brF ?_)); conv => whnf)
    refine ⟨_, eqHolder_spec ps[k] qs[k], ?_⟩
    ((repeat ((conv => whnf); first | refine brT ?_ | refine brF ?_)); conv => whnf)
    (refine ⟨fun h3 => ?_, fun h3 => ?_⟩ <;> rw [h3])
    · rw [notB_t] at h3
      ((repeat ((conv => whnf); first | refine brT ?_ | refine brF ?_)); conv => whnf)
      refine fin ?_
      rw [eqList_no (k := k) (x := ps[k]) (y := qs[k]) (by simp [hlt]) (by simp [hlt2]) h3]
    · rw [notB_f] at h3
      ((repeat ((conv => whnf); first | refine brT ?_ | refine brF ?_)); conv => whnf)
      refine round_end (k + 1) ⟨hlt, he.succ (x := ps[k]) (y := qs[k]) (by simp [hlt]) (by simp [hlt2]) h3⟩ (by omega) ⟨?_, trivial, rfl, rfl⟩
      have e := step_i hlt hp'
      ((repeat ((conv => whnf); first | refine ⟨e, ?_⟩ | refine ⟨rfl, ?_⟩)); trivial)
  · have h3 : ps.length ≤ k := by rw [ltI_f] at h1; simp at h1; omega
    have h4 : k = ps.length := by omega
    subst h4
    ((repeat ((conv => whnf); first | refine brT ?_ | refine brF ?_)); conv => whnf)
    refine fin ?_
    rw [eqTo.all hl he]
theorem markHolderS_spec (ps : List Pr) (n : Nat) (hn : n = (ps.map Pr.lv).length) (k : Nat) (h1 : k + 2 * ps.length ≤ 2305843009213693952) :
    HSpec env.P 13 [.hs 0 n, .int .i64 (k : Int)] [.arr 59 2 (ps.map Pr.lv)] (.int .i64 ((k + 2 * ps.length : Nat) : Int)) [.arr 59 2 ((markPrs k ps.length).map Pr.lv)] := by
  subst hn
  refine HSpec_of_code (E := env.x [] 1) env_ok.x (fn := Tryz.f13) Tryz.func13 rfl Tryz.call13 _ _ _ _ ?_
  ((repeat ((conv => whnf); first | refine brT ?_ | refine brF ?_)); conv => whnf)
  refine loop_rule (α := Nat) (fun i => [(5, .int .i64 (i : Int)), (1, .int .i64 ((k + 2 * i : Nat) : Int)), (0, .hs 0 (rowQM k ps i).length)]) (fun i => [.arr 59 2 (rowQM k ps i)]) (fun i => ps.length - i) (fun i => i ≤ ps.length) 0 (Nat.zero_le _) ?_ ?_
  · have e0 : ps.map Pr.lv = rowQM k ps 0 := by simp [rowQM, markPrs]
    have e1 : LV.hs 0 (ps.map Pr.lv).length = LV.hs 0 (rowQM k ps 0).length := by rw [e0]
    refine ⟨?_, ⟨congrArg (Blk.arr 59 2) e0, trivial⟩, rfl, rfl⟩
    ((repeat ((conv => whnf); first | refine ⟨e1, ?_⟩ | refine ⟨rfl, ?_⟩)); trivial)
  intro i hi
  have hl := rowQM_len (k := k) hi
  ((repeat ((conv => whnf); first | refine brT ?_ | refine brF ?_)); conv => whnf)
  refine ⟨rfl, fun hm => ?_⟩
  have hm' : ps.length ≤ Go.maxLen := by rw [← hl]; exact hm
  ((repeat ((conv => whnf); first | refine brT ?_ | refine brF ?_)); conv => whnf)
  (refine ⟨fun g1 => ?_, fun g1 => ?_⟩ <;> rw [g1])
  · have hlt : i < ps.length := by rw [ltI_t] at g1; omega
    have e := step_i hlt hm'
    have hiL : i < (rowQM k ps i).length := by omega
    have hg := rowQM_get (k := k) hlt
    have hset := rowQM_set (k := k) hlt
    have w0 : IntKind.i64.wrap (((k + 2 * i : Nat) : Int) + 1) = ((k + 2 * i : Nat) : Int) + 1 := wrap64 (by omega) (by omega)
    have w3 : IntKind.i64.wrap (((k + 2 * i : Nat) : Int) + 1 + 1) = ((k + 2 * (i + 1) : Nat) : Int) := by rw [wrap64 (by omega) (by omega)]; omega
    have hlen : ∀ x : LV, (rowQM k ps i).length = ((rowQM k ps i).set i x).length := fun x => by simp
    generalize ps[i] = p at hg hset
    generalize hK : ((k + 2 * i : Nat) : Int) = kk at w0 w3 hset ⊢
    have hfin : (rowQM k ps i).set i (.st [.int .i64 kk, .int .i64 (kk + 1)]) = rowQM k ps (i + 1) := hset
    generalize rowQM k ps i = L at hl hm hiL hg hlen hfin g1 ⊢
    have hgp : getP (.st L) [i] = some (.st [LV.int .i64 p.a, LV.int .i64 p.b]) := by simp [getP, hg, Pr.lv]
    have hgp0 : getP (.st L) [i, 0] = some (.int .i64 p.a) := by simp [getP, hg, Pr.lv]
    ((repeat ((conv => whnf); first | refine brT ?_ | refine brF ?_)); conv => whnf)
    refine ⟨rfl, rfl, i, rfl, hiL, ?_⟩
    ((repeat ((conv => whnf); first | refine brT ?_ | refine brF ?_)); conv => whnf)
    refine ⟨rfl, by simp, [LV.int .i64 p.a, LV.int .i64 p.b], hgp, rfl, by simp, ?_⟩
    ((repeat ((conv => whnf); first | refine brT ?_ | refine brF ?_)); conv => whnf)
    refine ⟨rfl, i, [0], .int .i64 p.a, rfl, hgp0, rfl, rfl, rfl, L.set i (.st [.int .i64 kk, .int .i64 p.b]), by rw [hg]; rfl, ?_⟩
    ((repeat ((conv => whnf); first | refine brT ?_ | refine brF ?_)); conv => whnf)
    rw [w0]
    refine ⟨hlen _, rfl, i, rfl, by simpa using hiL, ?_⟩
    ((repeat ((conv => whnf); first | refine brT ?_ | refine brF ?_)); conv => whnf)
    refine ⟨hlen _, by simp, _, fw_get hiL _, rfl, by simp, ?_⟩
    ((repeat ((conv => whnf); first | refine brT ?_ | refine brF ?_)); conv => whnf)
    refine ⟨hlen _, i, [1], _, rfl, fw_get2 hiL rfl, rfl, rfl, rfl, _, fw_set hiL rfl (.int .i64 (kk + 1)), ?_⟩
    ((repeat ((conv => whnf); first | refine brT ?_ | refine brF ?_)); conv => whnf)
    have e5 : LV.hs 0 L.length = LV.hs 0 (rowQM k ps (i + 1)).length := by rw [hl, rowQM_len (by omega)]
    have e6 : LV.int .i64 (IntKind.i64.wrap (kk + 1 + 1)) = LV.int .i64 ((k + 2 * (i + 1) : Nat) : Int) := by rw [w3]
    refine round_end (i + 1) hlt (by omega) ⟨?_, ⟨congrArg (Blk.arr 59 2) hfin, trivial⟩, rfl, rfl⟩
    repeat ((conv => whnf); first | refine ⟨e, ?_⟩ | refine ⟨e6, ?_⟩ | refine ⟨e5, ?_⟩ | refine ⟨rfl, ?_⟩)
    trivial
  · have h3 : i = ps.length := by rw [ltI_f] at g1; omega
    subst h3
    ((repeat ((conv => whnf); first | refine brT ?_ | refine brF ?_)); conv => whnf)
    exact ⟨[.int .i64 ((k + 2 * ps.length : Nat) : Int)], rfl, rfl, .inl ⟨⟨rfl, trivial⟩, ⟨by simp [rowQM], trivial⟩, rfl, rfl⟩⟩

theorem heldHolderS_spec (k n : Nat) (h1 : k + 2 * n ≤ 2305843009213693952) : FSpec env.P 14 [.sl ((markPrs k n).map Pr.lv), .int .i64 (k : Int)] (.int .i64 ((k + 2 * n : Nat) : Int)) := by
  refine FSpec_of_code env_ok (fn := Tryz.f14) Tryz.func14 rfl Tryz.call14 _ _ ?_
  have hl : (List.map Pr.lv (markPrs k n)).length = n := by simp [markPrs_len]
  ((repeat ((conv => whnf); first | refine brT ?_ | refine brF ?_)); conv => whnf)
  refine loop_rule (α := Nat) (fun i => [(5, .int .i64 (i : Int)), (1, .int .i64 ((k + 2 * i : Nat) : Int))]) (fun i => []) (fun i => n - i) (fun i => i ≤ n) 0 (Nat.zero_le _) ?_ ?_
  · refine ⟨?_, trivial, rfl, rfl⟩
    ((repeat ((conv => whnf); refine ⟨rfl, ?_⟩)); trivial)
  intro i hi
  ((repeat ((conv => whnf); first | refine brT ?_ | refine brF ?_)); conv => whnf)
  intro hm
  rw [hl] at hm
  ((repeat ((conv => whnf); first | refine brT ?_ | refine brF ?_)); conv => whnf)
  (refine ⟨fun g1 => ?_, fun g1 => ?_⟩ <;> rw [g1])
  · have hlt : i < n := by rw [ltI_t] at g1; omega
    have e := step_i hlt hm
    have hg : (List.map Pr.lv (markPrs k n))[i]? = some (.st [.int .i64 ((k + 2 * i : Nat) : Int), .int .i64 (((k + 2 * i : Nat) : Int) + 1)]) := by
      rw [List.getElem?_map, markPrs_get k n i hlt]; rfl
    have w0 : IntKind.i64.wrap (((k + 2 * i : Nat) : Int) + 1) = ((k + 2 * i : Nat) : Int) + 1 := wrap64 (by omega) (by omega)
    have w3 : IntKind.i64.wrap (((k + 2 * i : Nat) : Int) + 1 + 1) = ((k + 2 * (i + 1) : Nat) : Int) := by rw [wrap64 (by omega) (by omega)]; omega
    generalize hK : ((k + 2 * i : Nat) : Int) = kk at w0 w3 hg ⊢
    have e6 : LV.int .i64 (IntKind.i64.wrap (kk + 1 + 1)) = LV.int .i64 ((k + 2 * (i + 1) : Nat) : Int) := by rw [w3]
    ((repeat ((conv => whnf); first | refine brT ?_ | refine brF ?_)); conv => whnf)
    refine ⟨i, _, rfl, hg, rfl, ?_⟩
    ((repeat ((conv => whnf); first | refine brT ?_ | refine brF ?_)); conv => whnf)
    rw [show notB (eqI kk kk) = false by simp [notB, eqI]]
    ((repeat ((conv => whnf); first | refine brT ?_ | refine brF ?_)); conv => whnf)
    rw [w0]
    refine ⟨i, _, rfl, hg, rfl, ?_⟩
    ((repeat ((conv => whnf); first | refine brT ?_ | refine brF ?_)); conv => whnf)
    rw [show notB (eqI (kk + 1) (kk + 1)) = false by simp [notB, eqI]]
    ((repeat ((conv => whnf); first | refine brT ?_ | refine brF ?_)); conv => whnf)
    refine round_end (i + 1) hlt (by omega) ⟨?_, trivial, rfl, rfl⟩
    repeat ((conv => whnf); first | refine ⟨e, ?_⟩ | refine ⟨e6, ?_⟩ | refine ⟨rfl, ?_⟩)
    trivial
  · have h3 : i = n := by rw [ltI_f] at g1; omega
    subst h3
    ((repeat ((conv => whnf); first | refine brT ?_ | refine brF ?_)); conv => whnf)
    exact ⟨rfl, rfl, List.nodup_nil⟩
end Go.Proofs.YtbiagkccgijdlaaGreat


namespace Go.Proofs.YtbiagkccgijdlaaGreat
open Go.Lg Go.Pm
set_option maxHeartbeats 3200000
set_option maxRecDepth 10000
set_option linter.unusedVariables false
set_option linter.unusedSimpArgs false

/-! ### The first of those who succeed -/
def heirA (l : List Nat) : Int := match l with | [] => 0 | q :: _ => (q : Int)
def heirB (l : List Nat) : Bool := match l with | [] => false | _ :: _ => true
theorem heir_spec (ps : List Per) (us : List Uni) (x : Cus) (p y : Int) : FSpec env.P 25 [famLV ps us, x.lv, .int .i64 p, .int .i64 y] (.tup [.int .i64 (heirA (sucW ps us x p y)), .bool (heirB (sucW ps us x p y))]) := by
  have h := nats_f (suc_spec ps us x p y)
  have hl := sucW_len ps us x p y
  generalize sucW ps us x p y = L at h hl ⊢
  obtain ⟨pr, yo, re⟩ := x
  refine FSpec_of_code env_ok (fn := Tryz.f25) Tryz.func25 rfl Tryz.call25 _ _ ?_
  ((repeat ((conv => whnf); first | refine brT ?_ | refine brF ?_)); conv => whnf)
  refine ⟨_, h, ?_⟩
  cases L with
  | nil =>
    ((repeat ((conv => whnf); first | refine brT ?_ | refine brF ?_)); conv => whnf)
    intro _
    ((repeat ((conv => whnf); first | refine brT ?_ | refine brF ?_)); conv => whnf)
    rw [show eqI ((([] : List Nat).map natLV).length : Int) 0 = true from eqI_t.2 rfl]
    ((repeat ((conv => whnf); first | refine brT ?_ | refine brF ?_)); conv => whnf)
    (repeat (first | exact List.nodup_nil | refine ⟨rfl, ?_⟩))
  | cons q L =>
    have e0 : eqI (((q :: L).map natLV).length : Int) 0 = false := by rw [eqI_f, List.length_map, List.length_cons]; omega
    ((repeat ((conv => whnf); first | refine brT ?_ | refine brF ?_)); conv => whnf)
    intro _
    ((repeat ((conv => whnf); first | refine brT ?_ | refine brF ?_)); conv => whnf)
    rw [e0]
    ((repeat ((conv => whnf); first | refine brT ?_ | refine brF ?_)); conv => whnf)
    refine ⟨0, _, rfl, rfl, rfl, ?_⟩
    ((repeat ((conv => whnf); first | refine brT ?_ | refine brF ?_)); conv => whnf)
    (repeat (first | exact List.nodup_nil | refine ⟨rfl, ?_⟩))
end Go.Proofs.YtbiagkccgijdlaaGreat

namespace Go.Proofs.YtbiagkccgijdlaaGreat
open Go.Lg Go.Pm
set_option maxHeartbeats 3200000
set_option maxRecDepth 10000
set_option linter.unusedVariables false
set_option linter.unusedSimpArgs false

/-! ### Holders, one after the other -/
def dieP (ps : List Per) (p : Nat) : Int := match ps[p]? with | some z => z.died | none => -1
def sucP (ps : List Per) (x : Cus) (p : Nat) (y : Int) : List Nat := upwO ps x y (insP noI p) (ps.length + 1) (p : Int) []
def hold (ps : List Per) (x : Cus) : Nat → Nat → List Pr
  | 0, _ => []
  | d + 1, p => match eqI (dieP ps p) (-1) with
    | true => []
    | false => match sucP ps x p (dieP ps p) with
      | [] => []
      | q :: _ => ⟨(q : Int), dieP ps p⟩ :: hold ps x d q
def holdW (ps : List Per) (us : List Uni) (x : Cus) (p : Int) : List Pr := match cusOk x with
  | false => []
  | true => match hasP ps us p with
    | false => []
    | true => ⟨p, bornD ps p.toNat⟩ :: hold ps x 10001 p.toNat
theorem hold_len (ps : List Per) (x : Cus) : ∀ d p, (hold ps x d p).length ≤ d
  | 0, p => by simp [hold]
  | d + 1, p => by
    unfold hold
    cases eqI (dieP ps p) (-1)
    · cases sucP ps x p (dieP ps p) with
      | nil => simp
      | cons q l => have := hold_len ps x d q; simp; omega
    · simp
theorem holdW_len (ps : List Per) (us : List Uni) (x : Cus) (p : Int) : (holdW ps us x p).length ≤ 10002 := by
  unfold holdW
  cases cusOk x
  · simp
  · cases hasP ps us p
    · simp
    · have := hold_len ps x 10001 p.toNat
      simp; omega
theorem upwO_alive {ps : List Per} (hp : parsIn ps) (x : Cus) (y : Int) (I : Nat → Bool) : ∀ (d : Nat) (q : Int) (out : List Nat), q < ps.length → (∀ z ∈ out, alv ps y z = true) → ∀ z ∈ upwO ps x y I d q out, alv ps y z = true
  | 0, q, out, _, h => h
  | d + 1, q, out, hq, h => by
    unfold upwO
    cases e : leI 0 q
    · exact h
    · rw [leI_t] at e
      have hn := (nxt_lt hp (pr := x.prefer) e (by omega)).2
      refine upwO_alive hp x y I d _ _ (by omega) fun z hz => ?_
      rcases fldO_mem I _ _ z hz with h1 | ⟨h1, _⟩
      · exact h z h1
      · exact (desN_mem hp x y ps.length q.toNat (by omega) z h1).2.2
theorem die_ok {ps : List Per} {us : List Uni} (hf : famOk ps us = true) {p : Nat} (h : p < ps.length) : dieP ps p = -1 ∨ (0 ≤ dieP ps p ∧ dieP ps p ≤ 9999) := by
  obtain ⟨_, _, hp, _, _⟩ := famOk_parts hf
  obtain ⟨_, _, _, h1, h2, h3, _⟩ := personOk_spec (personsTo_get hp h h)
  simp only [dieP, List.getElem?_eq_getElem h]
  omega
/-- The first of those who succeed is a person who lives on. -/
theorem suc_first {ps : List Per} {us : List Uni} (hf : famOk ps us = true) {x : Cus} {p q : Nat} {y : Int} {l : List Nat} (h : p < ps.length) (e : sucP ps x p y = q :: l) : q < ps.length ∧ (dieP ps q = -1 ∨ y < dieP ps q) := by
  have hp := fam_pi hf
  have h1 := (upwO_ok hp x y (insP noI p) (ps.length + 1) (p : Int) [] (by omega) List.nodup_nil (fun z hz => by simp at hz)).2 q (by unfold sucP at e; rw [e]; simp)
  have h2 := upwO_alive hp x y (insP noI p) (ps.length + 1) (p : Int) [] (by omega) (fun z hz => by simp at hz) q (by unfold sucP at e; rw [e]; simp)
  refine ⟨h1, ?_⟩
  simp only [alv, List.getElem?_eq_getElem h1, aliveB, Bool.and_eq_true, Bool.or_eq_true, eqI_t, ltI_t] at h2
  simp only [dieP, List.getElem?_eq_getElem h1]
  exact h2.2
structure HoldSt (ps : List Per) (x : Cus) (R : List Pr) (s : Nat × Nat × List Pr) : Prop where
  eq : s.2.2 ++ hold ps x s.1 s.2.1 = R
  lt : s.2.1 < ps.length
  fu : dieP ps s.2.1 = -1 ∨ 10000 ≤ (s.1 : Int) + dieP ps s.2.1
  ln : s.2.2.length + s.1 ≤ 10002
theorem HoldSt.stop {ps : List Per} {x : Cus} {R : List Pr} {d p : Nat} {out : List Pr} (h : HoldSt ps x R (d, p, out)) (e : dieP ps p = -1) : out = R := by
  have := h.eq
  simp only at this
  rw [← this]
  cases d with
  | zero => simp [hold]
  | succ d => unfold hold; rw [show eqI (dieP ps p) (-1) = true from eqI_t.2 e]; simp
theorem HoldSt.none {ps : List Per} {x : Cus} {R : List Pr} {d p : Nat} {out : List Pr} (h : HoldSt ps x R (d, p, out)) (e : dieP ps p ≠ -1) (e2 : sucP ps x p (dieP ps p) = []) : out = R := by
  have := h.eq
  simp only at this
  rw [← this]
  cases d with
  | zero => simp [hold]
  | succ d => unfold hold; rw [show eqI (dieP ps p) (-1) = false from eqI_f.2 e, e2]; simp
theorem HoldSt.next {ps : List Per} {us : List Uni} (hf : famOk ps us = true) {x : Cus} {R : List Pr} {d p q : Nat} {l : List Nat} {out : List Pr} (h : HoldSt ps x R (d, p, out)) (e : dieP ps p ≠ -1) (e2 : sucP ps x p (dieP ps p) = q :: l) :
    ∃ d', d = d' + 1 ∧ HoldSt ps x R (d', q, out ++ [⟨(q : Int), dieP ps p⟩]) := by
  have h1 := h.fu
  have hd := die_ok hf h.lt
  simp only at h1 hd
  cases d with
  | zero => omega
  | succ d =>
    refine ⟨d, rfl, ?_⟩
    have hq := suc_first hf h.lt e2
    have he := h.eq
    simp only at he
    unfold hold at he
    rw [show eqI (dieP ps p) (-1) = false from eqI_f.2 e, e2] at he
    have hl := h.ln
    simp only at hl
    refine ⟨?_, hq.1, ?_, ?_⟩
    · simp only at he ⊢
      rw [← he, List.append_assoc]; rfl
    · simp only; omega
    · simp only [List.length_append, List.length_cons, List.length_nil]; omega
end Go.Proofs.YtbiagkccgijdlaaGreat


namespace Go.Proofs.YtbiagkccgijdlaaGreat
open Go.Lg Go.Pm
set_option maxHeartbeats 3200000
set_option maxRecDepth 10000
set_option linter.unusedVariables false
set_option linter.unusedSimpArgs false

theorem hold_impl (ps : List Per) (us : List Uni) (x : Cus) (p : Int) : HSpec env.P 9 [famLV ps us, x.lv, .int .i64 p] [] (.hs 0 ((holdW ps us x p).map Pr.lv).length) [.arr 59 2 ((holdW ps us x p).map Pr.lv)] := by
  refine HSpec_of_code (E := env.x [] 0) env_ok.x (fn := Tryz.f9) Tryz.func9 rfl Tryz.call9 _ _ _ _ ?_
  have h1 := cus_impl x
  have hSf : ∀ (m : Nat) (y : Int), hasP ps us p = true → m < ps.length → FSpec env.P 30 [famLV ps us, x.lv, .int .i64 (m : Int), .int .i64 y] (.own 3 1 ((sucP ps x m y).map natLV)) := fun m y h hm => nats_f (succ_h (hasP_lt h).2.2 x m y hm)
  unfold holdW
  generalize cusOk x = b at h1 ⊢
  unfold famLV Cus.lv at *
  ((repeat ((conv => whnf); first | refine brT ?_ | refine brF ?_)); conv => whnf)
  refine ⟨_, h1, ?_⟩
  ((repeat ((conv => whnf); first | refine brT ?_ | refine brF ?_)); conv => whnf)
  cases b
  · rw [show notB false = true by simp [notB]]
    ((repeat ((conv => whnf); first | refine brT ?_ | refine brF ?_)); conv => whnf)
    exact ⟨[.hs 0 0], rfl, rfl, .nl [.tmp 0 [] false 59 2] [.old 2] ⟨⟨rfl, rfl, trivial⟩, ⟨rfl, rfl, trivial⟩, rfl⟩⟩
  rw [show notB true = false by simp [notB]]
  ((repeat ((conv => whnf); first | refine brT ?_ | refine brF ?_)); conv => whnf)
  have hP := hasPerson_spec ps us p
  unfold famLV at hP
  refine ⟨_, hP, ?_⟩
  ((repeat ((conv => whnf); first | refine brT ?_ | refine brF ?_)); conv => whnf)
  cases h : hasP ps us p
  · rw [show notB false = true by simp [notB]]
    ((repeat ((conv => whnf); first | refine brT ?_ | refine brF ?_)); conv => whnf)
    exact ⟨[.hs 0 0], rfl, rfl, .nl [.tmp 0 [] false 59 2] [.old 2] ⟨⟨rfl, rfl, trivial⟩, ⟨rfl, rfl, trivial⟩, rfl⟩⟩
  rw [show notB true = false by simp [notB]]
  obtain ⟨p0, pl, h40, hpar⟩ := hasP_in h
  have hf := (hasP_lt h).2.2
  obtain ⟨m, rfl⟩ : ∃ m : Nat, p = (m : Int) := ⟨p.toNat, by omega⟩
  rw [show ((m : Int)).toNat = m from rfl] at pl
  have hW : (⟨(m : Int), bornD ps ((m : Int)).toNat⟩ :: hold ps x 10001 ((m : Int)).toNat) = (⟨(m : Int), bornD ps m⟩ :: hold ps x 10001 m) := rfl
  rw [hW]
  clear hW
  have hb : bornD ps m = ps[m].born := by simp [bornD, pl]
  have hdie : dieP ps m = ps[m].died := by simp [dieP, pl]
  generalize hR : (⟨(m : Int), bornD ps m⟩ :: hold ps x 10001 m) = R
  have hst : HoldSt ps x R (10001, m, [⟨(m : Int), bornD ps m⟩]) := ⟨hR, pl, by
    have := die_ok hf pl
    simp only
    omega, by simp⟩
  rw [hb] at hst
  have hg : (ps.map Per.lv)[m]? = some ps[m].lv := by simp [pl]
  generalize hz : ps[m] = z at hst hg hdie
  clear hb hR
  obtain ⟨nm, sx, fa, mo, bo, di⟩ := z
  simp only at hdie hst
  rw [← hdie] at hg
  clear hz
  have hgm : ∀ k : Nat, k < ps.length → ∃ nm sx fa mo bo, (ps.map Per.lv)[k]? = some (Per.lv ⟨nm, sx, fa, mo, bo, dieP ps k⟩) := fun k hk => by
    refine ⟨ps[k].name, ps[k].sex, ps[k].father, ps[k].mother, ps[k].born, ?_⟩
    rw [List.getElem?_map, List.getElem?_eq_getElem hk]
    simp [dieP, hk]
  ((repeat ((conv => whnf); first | refine brT ?_ | refine brF ?_)); conv => whnf)
  refine ⟨m, _, rfl, hg, rfl, ?_⟩
  ((repeat ((conv => whnf); first | refine brT ?_ | refine brF ?_)); conv => whnf)
  refine ⟨m, _, rfl, hg, rfl, ?_⟩
  ((repeat ((conv => whnf); first | refine brT ?_ | refine brF ?_)); conv => whnf)
  refine loop_ruleR (α := Nat × Nat × List Pr) [.old 0, .old 1, .old 2] (fun s => [(2, .int .i64 (s.2.1 : Int)), (8, .int .i64 (dieP ps s.2.1)), (27, .undef), (7, .hs 2 (s.2.2.map Pr.lv).length)])
    (fun s => [.box (famLV ps us), .box x.lv, .arr 59 2 (s.2.2.map Pr.lv)]) (fun s => s.1) (HoldSt ps x R) (10001, m, [⟨(m : Int), bo⟩]) hst ?_ ?_
  · refine ⟨?_, ⟨rfl, rfl, rfl, rfl, rfl, rfl, trivial⟩, rfl⟩
    ((repeat ((conv => whnf); refine ⟨rfl, rfl, ?_⟩)); trivial)
  rintro ⟨d, k, out⟩ hs
  generalize hK : kk _ = KK
  have hkl : k < ps.length := hs.lt
  unfold famLV Cus.lv
  ((repeat ((conv => whnf); first | refine brT ?_ | refine brF ?_)); conv => whnf)
  cases e0 : eqI (dieP ps k) (-1)
  · rw [show notB false = true by simp [notB]]
    rw [eqI_f] at e0
    have hF := hSf k (dieP ps k) h hkl
    ((repeat ((conv => whnf); first | refine brT ?_ | refine brF ?_)); conv => whnf)
    refine ⟨_, hF, ?_⟩
    cases hL : sucP ps x k (dieP ps k) with
    | nil =>
      have := hs.none e0 hL
      subst this
      ((repeat ((conv => whnf); first | refine brT ?_ | refine brF ?_)); conv => whnf)
      intro _
      ((repeat ((conv => whnf); first | refine brT ?_ | refine brF ?_)); conv => whnf)
      rw [show eqI ((([] : List Nat).map natLV).length : Int) 0 = true from eqI_t.2 rfl]
      ((repeat ((conv => whnf); first | refine brT ?_ | refine brF ?_)); conv => whnf)
      subst hK
      ((repeat ((conv => whnf); first | refine brT ?_ | refine brF ?_)); conv => whnf)
      exact ⟨[.hs 0 (out.map Pr.lv).length], rfl, rfl, .inr ⟨[.old 2], ⟨rfl, rfl, trivial⟩, ⟨rfl, rfl, trivial⟩, rfl⟩⟩
    | cons q L =>
      obtain ⟨d', rfl, hn⟩ := hs.next hf e0 hL
      have hln := hn.ln
      simp only at hln
      have e1 : eqI (((q :: L).map natLV).length : Int) 0 = false := by rw [eqI_f, List.length_map, List.length_cons]; omega
      have e2 : out.map Pr.lv ++ [LV.st [.int .i64 (q : Int), .int .i64 (dieP ps k)]] = (out ++ [Pr.mk (q : Int) (dieP ps k)]).map Pr.lv := by rw [List.map_append]; rfl
      obtain ⟨nm', sx', fa', mo', bo', hgq⟩ := hgm q hn.lt
      ((repeat ((conv => whnf); first | refine brT ?_ | refine brF ?_)); conv => whnf)
      intro _
      ((repeat ((conv => whnf); first | refine brT ?_ | refine brF ?_)); conv => whnf)
      rw [e1]
      ((repeat ((conv => whnf); first | refine brT ?_ | refine brF ?_)); conv => whnf)
      refine ⟨0, _, rfl, rfl, rfl, ?_⟩
      rw [show natLV q = .int .i64 (q : Int) from rfl]
      ((repeat ((conv => whnf); first | refine brT ?_ | refine brF ?_)); conv => whnf)
      refine ⟨rfl, rfl, ?_, ?_, ?_⟩
      · rw [e2, List.length_map]; unfold Go.maxLen; simp only [List.length_append, List.length_cons, List.length_nil] at hln ⊢; omega
      · rw [e2, List.length_map]; show (out ++ [Pr.mk (q : Int) (dieP ps k)]).length * 16 ≤ _; simp only [List.length_append, List.length_cons, List.length_nil] at hln ⊢; omega
      rw [e2]
      ((repeat ((conv => whnf); first | refine brT ?_ | refine brF ?_)); conv => whnf)
      refine ⟨q, _, rfl, hgq, rfl, ?_⟩
      ((repeat ((conv => whnf); first | refine brT ?_ | refine brF ?_)); conv => whnf)
      subst hK
      refine round_endR [.old 0, .old 1, .old 4] (d', q, out ++ [Pr.mk (q : Int) (dieP ps k)]) hn (by simp only; omega) ⟨?_, ⟨rfl, rfl, rfl, rfl, rfl, rfl, trivial⟩, rfl⟩
      ((repeat ((conv => whnf); refine ⟨rfl, rfl, ?_⟩)); trivial)
  · rw [show notB true = false by simp [notB]]
    rw [eqI_t] at e0
    have := hs.stop e0
    subst this
    subst hK
    ((repeat ((conv => whnf); first | refine brT ?_ | refine brF ?_)); conv => whnf)
    exact ⟨[.hs 0 (out.map Pr.lv).length], rfl, rfl, .inr ⟨[.old 2], ⟨rfl, rfl, trivial⟩, ⟨rfl, rfl, trivial⟩, rfl⟩⟩
theorem hold_spec (ps : List Per) (us : List Uni) (x : Cus) (p : Int) : HSpec env.P 6 [famLV ps us, x.lv, .int .i64 p] [] (.hs 0 ((holdW ps us x p).map Pr.lv).length) [.arr 59 2 ((holdW ps us x p).map Pr.lv)] := by
  refine HSpec_of_code (E := env.x [] 0) env_ok.x (fn := Tryz.f6) Tryz.func6 rfl Tryz.call6 _ _ _ _ ?_
  have h1 := cus_spec x
  have hSf : cusOk x = true → ∀ (m : Nat) (y : Int), hasP ps us p = true → m < ps.length → FSpec env.P 25 [famLV ps us, x.lv, .int .i64 (m : Int), .int .i64 y] (.tup [.int .i64 (heirA (sucP ps x m y)), .bool (heirB (sucP ps x m y))]) := fun hc m y h hm => by
    have hB := heir_spec ps us x (m : Int) y
    have hm' : hasP ps us (m : Int) = true := by
      unfold hasP
      rw [leI_t.2 (by omega), ltI_t.2 (by omega), (hasP_lt h).2.2]; rfl
    have e : sucW ps us x (m : Int) y = sucP ps x m y := by unfold sucW; rw [hc, hm']; rfl
    rw [e] at hB
    exact hB
  unfold holdW
  generalize cusOk x = b at h1 hSf ⊢
  unfold famLV Cus.lv at *
  ((repeat ((conv => whnf); first | refine brT ?_ | refine brF ?_)); conv => whnf)
  refine ⟨_, h1, ?_⟩
  ((repeat ((conv => whnf); first | refine brT ?_ | refine brF ?_)); conv => whnf)
  cases b
  · rw [show notB false = true by simp [notB]]
    ((repeat ((conv => whnf); first | refine brT ?_ | refine brF ?_)); conv => whnf)
    exact ⟨[.hs 0 0], rfl, rfl, .nl [.tmp 0 [] false 59 2] [.old 2] ⟨⟨rfl, rfl, trivial⟩, ⟨rfl, rfl, trivial⟩, rfl⟩⟩
  rw [show notB true = false by simp [notB]]
  ((repeat ((conv => whnf); first | refine brT ?_ | refine brF ?_)); conv => whnf)
  have hP := l1Has_spec ps us p
  unfold famLV at hP
  refine ⟨_, hP, ?_⟩
  ((repeat ((conv => whnf); first | refine brT ?_ | refine brF ?_)); conv => whnf)
  cases h : hasP ps us p
  · rw [show notB false = true by simp [notB]]
    ((repeat ((conv => whnf); first | refine brT ?_ | refine brF ?_)); conv => whnf)
    exact ⟨[.hs 0 0], rfl, rfl, .nl [.tmp 0 [] false 59 2] [.old 2] ⟨⟨rfl, rfl, trivial⟩, ⟨rfl, rfl, trivial⟩, rfl⟩⟩
  rw [show notB true = false by simp [notB]]
  obtain ⟨p0, pl, h40, hpar⟩ := hasP_in h
  have hf := (hasP_lt h).2.2
  obtain ⟨m, rfl⟩ : ∃ m : Nat, p = (m : Int) := ⟨p.toNat, by omega⟩
  rw [show ((m : Int)).toNat = m from rfl] at pl
  have hW : (⟨(m : Int), bornD ps ((m : Int)).toNat⟩ :: hold ps x 10001 ((m : Int)).toNat) = (⟨(m : Int), bornD ps m⟩ :: hold ps x 10001 m) := rfl
  rw [hW]
  clear hW
  have hb : bornD ps m = ps[m].born := by simp [bornD, pl]
  have hdie : dieP ps m = ps[m].died := by simp [dieP, pl]
  generalize hR : (⟨(m : Int), bornD ps m⟩ :: hold ps x 10001 m) = R
  have hst : HoldSt ps x R (10001, m, [⟨(m : Int), bornD ps m⟩]) := ⟨hR, pl, by
    have := die_ok hf pl
    simp only
    omega, by simp⟩
  rw [hb] at hst
  have hg : (ps.map Per.lv)[m]? = some ps[m].lv := by simp [pl]
  generalize hz : ps[m] = z at hst hg hdie
  clear hb hR
  obtain ⟨nm, sx, fa, mo, bo, di⟩ := z
  simp only at hdie hst
  rw [← hdie] at hg
  clear hz
  have hgm : ∀ k : Nat, k < ps.length → ∃ nm sx fa mo bo, (ps.map Per.lv)[k]? = some (Per.lv ⟨nm, sx, fa, mo, bo, dieP ps k⟩) := fun k hk => by
    refine ⟨ps[k].name, ps[k].sex, ps[k].father, ps[k].mother, ps[k].born, ?_⟩
    rw [List.getElem?_map, List.getElem?_eq_getElem hk]
    simp [dieP, hk]
  ((repeat ((conv => whnf); first | refine brT ?_ | refine brF ?_)); conv => whnf)
  refine ⟨m, _, rfl, hg, rfl, ?_⟩
  ((repeat ((conv => whnf); first | refine brT ?_ | refine brF ?_)); conv => whnf)
  refine loop_ruleR (α := Nat × Nat × List Pr) [.old 0, .old 1, .old 2] (fun s => [(2, .int .i64 (s.2.1 : Int)), (28, .undef), (7, .hs 2 (s.2.2.map Pr.lv).length)])
    (fun s => [.box (famLV ps us), .box x.lv, .arr 59 2 (s.2.2.map Pr.lv)]) (fun s => s.1) (HoldSt ps x R) (10001, m, [⟨(m : Int), bo⟩]) hst ?_ ?_
  · refine ⟨?_, ⟨rfl, rfl, rfl, rfl, rfl, rfl, trivial⟩, rfl⟩
    ((repeat ((conv => whnf); refine ⟨rfl, rfl, ?_⟩)); trivial)
  rintro ⟨d, k, out⟩ hs
  generalize hK : kk _ = KK
  have hkl : k < ps.length := hs.lt
  have hdk := die_ok hf hkl
  obtain ⟨nm1, sx1, fa1, mo1, bo1, hgk⟩ := hgm k hkl
  unfold famLV Cus.lv
  ((repeat ((conv => whnf); first | refine brT ?_ | refine brF ?_)); conv => whnf)
  refine ⟨k, _, rfl, hgk, rfl, ?_⟩
  ((repeat ((conv => whnf); first | refine brT ?_ | refine brF ?_)); conv => whnf)
  cases e0 : leI 0 (dieP ps k)
  · rw [leI_f] at e0
    have := hs.stop (by omega)
    subst this
    subst hK
    ((repeat ((conv => whnf); first | refine brT ?_ | refine brF ?_)); conv => whnf)
    exact ⟨[.hs 0 (out.map Pr.lv).length], rfl, rfl, .inr ⟨[.old 2], ⟨rfl, rfl, trivial⟩, ⟨rfl, rfl, trivial⟩, rfl⟩⟩
  · rw [leI_t] at e0
    have e0' : dieP ps k ≠ -1 := by omega
    have hF := hSf rfl k (dieP ps k) h hkl
    ((repeat ((conv => whnf); first | refine brT ?_ | refine brF ?_)); conv => whnf)
    refine ⟨k, _, rfl, hgk, rfl, ?_⟩
    ((repeat ((conv => whnf); first | refine brT ?_ | refine brF ?_)); conv => whnf)
    refine ⟨_, hF, ?_⟩
    cases hL : sucP ps x k (dieP ps k) with
    | nil =>
      have := hs.none e0' hL
      subst this
      ((repeat ((conv => whnf); first | refine brT ?_ | refine brF ?_)); conv => whnf)
      rw [show heirB [] = false from rfl, show notB false = true by simp [notB]]
      ((repeat ((conv => whnf); first | refine brT ?_ | refine brF ?_)); conv => whnf)
      subst hK
      ((repeat ((conv => whnf); first | refine brT ?_ | refine brF ?_)); conv => whnf)
      exact ⟨[.hs 0 (out.map Pr.lv).length], rfl, rfl, .inr ⟨[.old 2], ⟨rfl, rfl, trivial⟩, ⟨rfl, rfl, trivial⟩, rfl⟩⟩
    | cons q L =>
      obtain ⟨d', rfl, hn⟩ := hs.next hf e0' hL
      have hln := hn.ln
      simp only at hln
      have e2 : out.map Pr.lv ++ [LV.st [.int .i64 (q : Int), .int .i64 (dieP ps k)]] = (out ++ [Pr.mk (q : Int) (dieP ps k)]).map Pr.lv := by rw [List.map_append]; rfl
      ((repeat ((conv => whnf); first | refine brT ?_ | refine brF ?_)); conv => whnf)
      rw [show heirB (q :: L) = true from rfl, show notB true = false by simp [notB]]
      rw [show heirA (q :: L) = (q : Int) from rfl]
      ((repeat ((conv => whnf); first | refine brT ?_ | refine brF ?_)); conv => whnf)
      refine ⟨rfl, rfl, ?_, ?_, ?_⟩
      · rw [e2, List.length_map]; unfold Go.maxLen; simp only [List.length_append, List.length_cons, List.length_nil] at hln ⊢; omega
      · rw [e2, List.length_map]; show (out ++ [Pr.mk (q : Int) (dieP ps k)]).length * 16 ≤ _; simp only [List.length_append, List.length_cons, List.length_nil] at hln ⊢; omega
      rw [e2]
      ((repeat ((conv => whnf); first | refine brT ?_ | refine brF ?_)); conv => whnf)
      subst hK
      refine round_endR [.old 0, .old 1, .old 4] (d', q, out ++ [Pr.mk (q : Int) (dieP ps k)]) hn (by simp only; omega) ⟨?_, ⟨rfl, rfl, rfl, rfl, rfl, rfl, trivial⟩, rfl⟩
      ((repeat ((conv => whnf); refine ⟨rfl, rfl, ?_⟩)); trivial)
end Go.Proofs.YtbiagkccgijdlaaGreat


namespace Go.Proofs.YtbiagkccgijdlaaGreat
open Go.Lg Go.Pm
set_option maxHeartbeats 3200000
set_option maxRecDepth 10000
set_option linter.unusedVariables false
set_option linter.unusedSimpArgs false

theorem law_holdersOf (ps : List Per) (us : List Uni) (x : Cus) (p : Int) (hf : FamOK ps us) : FSpec env.P 3 [famLV ps us, x.lv, .int .i64 p] (.bool true) := by
  have hI := hold_impl ps us x p
  have hS : FSpec env.P 6 [famLV ps us, x.lv, .int .i64 p] (.own 59 2 ((holdW ps us x p).map Pr.lv)) := FSpec_of_HSpec (hold_spec ps us x p) (by simp [exW])
  have hF : FSpec env.P 9 [famLV ps us, x.lv, .int .i64 p] (.own 59 2 ((holdW ps us x p).map Pr.lv)) := FSpec_of_HSpec hI (by simp [exW])
  have hl : (holdW ps us x p).length ≤ 1048576 := Nat.le_trans (holdW_len ps us x p) (by omega)
  have hT := toCus_spec x
  generalize holdW ps us x p = R at hI hS hF hl
  obtain ⟨pr, yo, re⟩ := x
  refine FSpec_of_code (E := env.x [7, 9, 12, 13] 0) env_ok.x (fn := Tryz.f3) Tryz.func3 rfl Tryz.call3 _ _ ?_
  ((repeat ((conv => whnf); first | refine brT ?_ | refine brF ?_)); conv => whnf)
  refine ⟨_, szFamily_spec ps us _, ?_⟩
  ((repeat ((conv => whnf); first | refine brT ?_ | refine brF ?_)); conv => whnf)
  (refine ⟨fun h => ?_, fun h => ?_⟩ <;> rw [h])
  · ((repeat ((conv => whnf); first | refine brT ?_ | refine brF ?_)); conv => whnf); exact fin rfl
  rw [ltI_f] at h
  obtain ⟨p1, u1, s1⟩ := szFam_ok (by omega) (by omega) hf h
  ((repeat ((conv => whnf); first | refine brT ?_ | refine brF ?_)); conv => whnf)
  refine ⟨true, by kernel_rfl, ?_⟩
  ((repeat ((conv => whnf); first | refine brT ?_ | refine brF ?_)); conv => whnf)
  refine ⟨_, toFamily_spec ps us p1 u1, ?_⟩
  ((repeat ((conv => whnf); first | refine brT ?_ | refine brF ?_)); conv => whnf)
  refine ⟨_, hT, ?_⟩
  ((repeat ((conv => whnf); first | refine brT ?_ | refine brF ?_)); conv => whnf)
  refine ⟨_, hS, ?_⟩
  rw [show flatT (.own 59 2 (R.map Pr.lv)) = true from flats_prs R]
  ((repeat ((conv => whnf); first | refine brT ?_ | refine brF ?_)); conv => whnf)
  refine ⟨[], _, _, _, _, toFamily_hm ps us p1 u1, rfl, rfl, rfl, trivial, ?_⟩
  ((repeat ((conv => whnf); first | refine brT ?_ | refine brF ?_)); conv => whnf)
  refine ⟨false, 0, 0, 0, [0, 1, 3], (.one 2 (.one 4 (.one 5 .done))), by kernel_rfl, ?_⟩
  ((repeat ((conv => whnf); first | refine brT ?_ | refine brF ?_)); conv => whnf)
  apply Exists.intro; apply Exists.intro
  refine And.intro ?_ ?_
  · ((repeat ((conv => whnf); first | refine brT ?_ | refine brF ?_)); conv => whnf)
    refine ⟨_, hT, ?_⟩
    ((repeat ((conv => whnf); first | refine brT ?_ | refine brF ?_)); conv => whnf)
    refine ⟨_, _, _, _, hI, rfl, rfl, rfl, rfl, rfl, ⟨rfl, flats_prs _, trivial⟩, ?_⟩
    ((repeat ((conv => whnf); first | refine brT ?_ | refine brF ?_)); conv => whnf)
    refine Weak.idn ?_ ?_ rfl
    · ((repeat ((conv => whnf); refine ⟨rfl, ?_⟩)); trivial)
    · exact ⟨rfl, rfl, rfl, rfl, rfl, rfl, trivial⟩
  ((repeat ((conv => whnf); first | refine brT ?_ | refine brF ?_)); conv => whnf)
  refine ⟨rfl, ?_⟩
  ((repeat ((conv => whnf); first | refine brT ?_ | refine brF ?_)); conv => whnf)
  refine ⟨_, eqHolderS_spec R R, ?_⟩
  rw [eqPairS_refl]
  ((repeat ((conv => whnf); first | refine brT ?_ | refine brF ?_)); conv => whnf)
  rw [show notB true = false by simp [notB]]
  ((repeat ((conv => whnf); first | refine brT ?_ | refine brF ?_)); conv => whnf)
  refine ⟨true, by kernel_rfl, ?_⟩
  ((repeat ((conv => whnf); first | refine brT ?_ | refine brF ?_)); conv => whnf)
  refine ⟨_, toFamily_spec ps us p1 u1, ?_⟩
  ((repeat ((conv => whnf); first | refine brT ?_ | refine brF ?_)); conv => whnf)
  refine ⟨rfl, ?_⟩
  ((repeat ((conv => whnf); first | refine brT ?_ | refine brF ?_)); conv => whnf)
  refine ⟨rfl, ?_⟩
  ((repeat ((conv => whnf); first | refine brT ?_ | refine brF ?_)); conv => whnf)
  refine ⟨_, eqFamily_spec ps ps us us, ?_⟩
  rw [eqFam_refl]
  ((repeat ((conv => whnf); first | refine brT ?_ | refine brF ?_)); conv => whnf)
  rw [show notB true = false by simp [notB]]
  ((repeat ((conv => whnf); first | refine brT ?_ | refine brF ?_)); conv => whnf)
  refine ⟨[2, 3], _, _, _, _, markFamily_hm ps us 1 (by omega), rfl, rfl, rfl, trivial, ?_⟩
  ((repeat ((conv => whnf); first | refine brT ?_ | refine brF ?_)); conv => whnf)
  rw [show ltI ((1 + 6 * ps.length + 4 * us.length : Nat) : Int) 0 = false by rw [ltI_f]; omega]
  ((repeat ((conv => whnf); first | refine brT ?_ | refine brF ?_)); conv => whnf)
  refine ⟨rfl, ?_⟩
  ((repeat ((conv => whnf); first | refine brT ?_ | refine brF ?_)); conv => whnf)
  refine ⟨_, eqHolderS_spec R R, ?_⟩
  rw [eqPairS_refl]
  ((repeat ((conv => whnf); first | refine brT ?_ | refine brF ?_)); conv => whnf)
  rw [show notB true = false by simp [notB]]
  ((repeat ((conv => whnf); first | refine brT ?_ | refine brF ?_)); conv => whnf)
  refine ⟨[5], _, _, _, _, markHolderS_spec R _ rfl 1 (by omega), rfl, rfl, rfl, trivial, ?_⟩
  ((repeat ((conv => whnf); first | refine brT ?_ | refine brF ?_)); conv => whnf)
  refine ⟨by simp [markPrs_len], ?_⟩
  ((repeat ((conv => whnf); first | refine brT ?_ | refine brF ?_)); conv => whnf)
  refine ⟨_, heldHolderS_spec 1 R.length (by omega), ?_⟩
  ((repeat ((conv => whnf); first | refine brT ?_ | refine brF ?_)); conv => whnf)
  rw [show ltI ((1 + 2 * R.length : Nat) : Int) 0 = false by rw [ltI_f]; omega]
  ((repeat ((conv => whnf); first | refine brT ?_ | refine brF ?_)); conv => whnf)
  rw [show notB (eqI ((1 + 2 * R.length : Nat) : Int) ((1 + 2 * R.length : Nat) : Int)) = false by simp [notB, eqI_refl]]
  ((repeat ((conv => whnf); first | refine brT ?_ | refine brF ?_)); conv => whnf)
  refine ⟨true, by kernel_rfl, ?_⟩
  ((repeat ((conv => whnf); first | refine brT ?_ | refine brF ?_)); conv => whnf)
  refine ⟨_, toFamily_spec ps us p1 u1, ?_⟩
  ((repeat ((conv => whnf); first | refine brT ?_ | refine brF ?_)); conv => whnf)
  refine ⟨_, hT, ?_⟩
  ((repeat ((conv => whnf); first | refine brT ?_ | refine brF ?_)); conv => whnf)
  refine ⟨_, hF, ?_⟩
  rw [show flatT (.own 59 2 (R.map Pr.lv)) = true from flats_prs R]
  ((repeat ((conv => whnf); first | refine brT ?_ | refine brF ?_)); conv => whnf)
  refine ⟨_, eqHolderS_spec R R, ?_⟩
  rw [eqPairS_refl]
  ((repeat ((conv => whnf); first | refine brT ?_ | refine brF ?_)); conv => whnf)
  rw [show notB true = false by simp [notB]]
  ((repeat ((conv => whnf); first | refine brT ?_ | refine brF ?_)); conv => whnf)
  refine ⟨by simp [markPrs_len], ?_⟩
  ((repeat ((conv => whnf); first | refine brT ?_ | refine brF ?_)); conv => whnf)
  refine ⟨_, heldHolderS_spec 1 R.length (by omega), ?_⟩
  ((repeat ((conv => whnf); first | refine brT ?_ | refine brF ?_)); conv => whnf)
  rw [show ltI ((1 + 2 * R.length : Nat) : Int) 0 = false by rw [ltI_f]; omega]
  ((repeat ((conv => whnf); first | refine brT ?_ | refine brF ?_)); conv => whnf)
  rw [show notB (eqI ((1 + 2 * R.length : Nat) : Int) ((1 + 2 * R.length : Nat) : Int)) = false by simp [notB, eqI_refl]]
  ((repeat ((conv => whnf); first | refine brT ?_ | refine brF ?_)); conv => whnf)
  exact fin rfl
end Go.Proofs.YtbiagkccgijdlaaGreat


namespace Go.Proofs.YtbiagkccgijdlaaGreat
open Go.Lg Go.RowKit Go.ChangeShapes Go.WideShapes Go.Deep Go.Joins
set_option linter.unusedVariables false
set_option linter.unusedSimpArgs false
set_option maxRecDepth 100000

theorem list_of {α : Type} {lv : α → LV} {Q : α → Prop} : ∀ (xs : List LV), (∀ x ∈ xs, ∃ p, x = lv p ∧ Q p) → ∃ ps : List α, xs = ps.map lv ∧ ∀ p ∈ ps, Q p
  | [], _ => ⟨[], rfl, by simp⟩
  | x :: xs, h => by
    obtain ⟨p, rfl, hp⟩ := h x (by simp)
    obtain ⟨ps, rfl, hps⟩ := list_of xs fun y hy => h y (by simp [hy])
    exact ⟨p :: ps, rfl, List.forall_mem_cons.2 ⟨hp, hps⟩⟩

section
variable {H : Type} {enc : TypeId × Value → H} {w : World}
end
end Go.Proofs.YtbiagkccgijdlaaGreat


namespace Go.Proofs.YtbiagkccgijdlaaGreat
open Go.Lg
set_option maxRecDepth 10000
set_option linter.unusedVariables false
set_option linter.unusedSimpArgs false

/-! ### A family, out of an argument's shape -/
abbrev shPer : Sh := .st [.str, .int .i64, .int .i64, .int .i64, .int .i64, .int .i64]
abbrev shUni : Sh := .st [.int .i64, .int .i64, .int .i64, .int .i64]
abbrev shFam : Sh := .st [.sl (.st [.str, .int .i64, .int .i64, .int .i64, .int .i64, .int .i64]), .sl (.st [.int .i64, .int .i64, .int .i64, .int .i64])]
theorem per_of_sh {x : LV} (h : hasSh shPer x) : ∃ p : Per, x = p.lv ∧ p.name.size ≤ maxLen := by
  simp only [hasSh] at h
  obtain ⟨xs, rfl, h⟩ := h
  match xs, h with
  | [a, b, c, d, e, f], h =>
    simp only [hasShs, hasSh] at h
    obtain ⟨⟨s, rfl, hs⟩, ⟨n1, rfl⟩, ⟨n2, rfl⟩, ⟨n3, rfl⟩, ⟨n4, rfl⟩, ⟨n5, rfl⟩, _⟩ := h
    exact ⟨⟨s, n1, n2, n3, n4, n5⟩, rfl, hs⟩
  | [], h => simp [hasShs] at h
  | [_], h => simp [hasShs] at h
  | [_, _], h => simp [hasShs] at h
  | [_, _, _], h => simp [hasShs] at h
  | [_, _, _, _], h => simp [hasShs] at h
  | [_, _, _, _, _], h => simp [hasShs] at h
  | _ :: _ :: _ :: _ :: _ :: _ :: _ :: _, h => simp [hasShs] at h
theorem uni_of_sh {x : LV} (h : hasSh shUni x) : ∃ u : Uni, x = u.lv ∧ True := by
  simp only [hasSh] at h
  obtain ⟨xs, rfl, h⟩ := h
  match xs, h with
  | [a, b, c, d], h =>
    simp only [hasShs, hasSh] at h
    obtain ⟨⟨n1, rfl⟩, ⟨n2, rfl⟩, ⟨n3, rfl⟩, ⟨n4, rfl⟩, _⟩ := h
    exact ⟨⟨n1, n2, n3, n4⟩, rfl, trivial⟩
  | [], h => simp [hasShs] at h
  | [_], h => simp [hasShs] at h
  | [_, _], h => simp [hasShs] at h
  | [_, _, _], h => simp [hasShs] at h
  | _ :: _ :: _ :: _ :: _ :: _, h => simp [hasShs] at h
theorem fam_of_sh {x : LV} (h : hasSh shFam x) : ∃ (ps : List Per) (us : List Uni), x = famLV ps us ∧ FamOK ps us := by
  simp only [hasSh] at h
  obtain ⟨xs, rfl, h⟩ := h
  match xs, h with
  | [a, b], h =>
    simp only [hasShs, hasSh] at h
    obtain ⟨⟨ys, rfl, hl, hy⟩, ⟨zs, rfl, hm, hz⟩, _⟩ := h
    obtain ⟨ps, rfl, hps⟩ := list_of (lv := Per.lv) (Q := fun p => p.name.size ≤ maxLen) ys fun y hy' => per_of_sh (by simp only [hasSh]; exact hy y hy')
    obtain ⟨us, rfl, _⟩ := list_of (lv := Uni.lv) (Q := fun _ => True) zs fun y hy' => uni_of_sh (by simp only [hasSh]; exact hz y hy')
    exact ⟨ps, us, rfl, ⟨by simpa using hl, by simpa using hm, hps⟩⟩
  | [], h => simp [hasShs] at h
  | [_], h => simp [hasShs] at h
  | _ :: _ :: _ :: _, h => simp [hasShs] at h
end Go.Proofs.YtbiagkccgijdlaaGreat

