/- Contracts of functions of the program and of its model, told over readings. -/
import Derived.Test.YtdppjbiphekgjaaBPD
import Derived.Test.YtdppjbiphekgjaaBPA
import Derived.Test.YtdppjbiphekgjaaBPC
namespace Go.Proofs.Ytdppjbiphekgjaa
open Go.Lg
set_option maxHeartbeats 1600000
set_option maxRecDepth 10000
set_option linter.unusedVariables false
set_option linter.unusedSimpArgs false

def markUni (k : Nat) : Uni := ⟨(k : Int), (k : Int) + 1, (k : Int) + 2, (k : Int) + 3⟩
def markUnis (k : Nat) : Nat → List Uni
  | 0 => []
  | n + 1 => markUnis k n ++ [markUni (k + 4 * n)]
theorem markUnis_len (k : Nat) : ∀ n, (markUnis k n).length = n
  | 0 => rfl
  | n + 1 => by simp [markUnis, markUnis_len k n]
def rowUM (k : Nat) (ps : List Uni) (i : Nat) : List LV := (markUnis k i ++ ps.drop i).map Uni.lv
theorem rowUM_len {k : Nat} {ps : List Uni} {i : Nat} (h : i ≤ ps.length) : (rowUM k ps i).length = ps.length := by simp [rowUM, markUnis_len]; omega
theorem rowUM_get {k : Nat} {ps : List Uni} {i : Nat} (h : i < ps.length) : (rowUM k ps i)[i]? = some ps[i].lv := by
  unfold rowUM
  rw [List.getElem?_map, List.getElem?_append_right (by rw [markUnis_len]; exact Nat.le_refl _), markUnis_len, Nat.sub_self, List.getElem?_drop, Nat.add_zero, List.getElem?_eq_getElem h]
  rfl
theorem rowUM_set {k : Nat} {ps : List Uni} {i : Nat} (h : i < ps.length) : (rowUM k ps i).set i (markUni (k + 4 * i)).lv = rowUM k ps (i + 1) := by
  unfold rowUM
  rw [List.drop_eq_getElem_cons h, List.map_append, List.map_cons, List.set_append_right _ _ (by simp [markUnis_len])]
  simp [markUnis, markUnis_len]

theorem markUnionS_spec (ps : List Uni) (n : Nat) (hn : n = (ps.map Uni.lv).length) (k : Nat) (h1 : k + 4 * ps.length ≤ 2305843009213693952) :
    HSpec env.P 72 [.hs 0 n, .int .i64 (k : Int)] [.arr 131 4 (ps.map Uni.lv)] (.int .i64 ((k + 4 * ps.length : Nat) : Int)) [.arr 131 4 ((markUnis k ps.length).map Uni.lv)] := by
  subst hn
  refine HSpec_of_code (E := env.x [] 1) env_ok.x (fn := Try.f72) Try.func72 rfl Try.call72 _ _ _ _ ?_
  ((repeat ((conv => whnf); first | refine brT ?_ | refine brF ?_)); conv => whnf)
  refine loop_rule (α := Nat) (fun i => [(5, .int .i64 (i : Int)), (1, .int .i64 ((k + 4 * i : Nat) : Int)), (0, .hs 0 (rowUM k ps i).length)]) (fun i => [.arr 131 4 (rowUM k ps i)]) (fun i => ps.length - i) (fun i => i ≤ ps.length) 0 (Nat.zero_le _) ?_ ?_
  · have e0 : ps.map Uni.lv = rowUM k ps 0 := by simp [rowUM, markUnis]
    have e1 : LV.hs 0 (ps.map Uni.lv).length = LV.hs 0 (rowUM k ps 0).length := by rw [e0]
    refine ⟨?_, ⟨congrArg (Blk.arr 131 4) e0, trivial⟩, rfl, rfl⟩
    ((repeat ((conv => whnf); first | refine ⟨e1, ?_⟩ | refine ⟨rfl, ?_⟩)); trivial)
  intro i hi
  have hl := rowUM_len (k := k) hi
  ((repeat ((conv => whnf); first | refine brT ?_ | refine brF ?_)); conv => whnf)
  refine ⟨rfl, fun hm => ?_⟩
  have hm' : ps.length ≤ Go.maxLen := by rw [← hl]; exact hm
  ((repeat ((conv => whnf); first | refine brT ?_ | refine brF ?_)); conv => whnf)
  (refine ⟨fun g1 => ?_, fun g1 => ?_⟩ <;> rw [g1])
  · have hlt : i < ps.length := by rw [ltI_t] at g1; omega
    have e := step_i hlt hm'
    have hiL : i < (rowUM k ps i).length := by omega
    have hg := rowUM_get (k := k) hlt
    have hset := rowUM_set (k := k) hlt
    have w0 : IntKind.i64.wrap (((k + 4 * i : Nat) : Int) + 1) = ((k + 4 * i : Nat) : Int) + 1 := wrap64 (by omega) (by omega)
    have w1 : IntKind.i64.wrap (((k + 4 * i : Nat) : Int) + 1 + 1) = ((k + 4 * i : Nat) : Int) + 2 := by rw [wrap64 (by omega) (by omega)]; omega
    have w2 : IntKind.i64.wrap (((k + 4 * i : Nat) : Int) + 2 + 1) = ((k + 4 * i : Nat) : Int) + 3 := by rw [wrap64 (by omega) (by omega)]; omega
    have w3 : IntKind.i64.wrap (((k + 4 * i : Nat) : Int) + 3 + 1) = ((k + 4 * (i + 1) : Nat) : Int) := by rw [wrap64 (by omega) (by omega)]; omega
    have hlen : ∀ x : LV, (rowUM k ps i).length = ((rowUM k ps i).set i x).length := fun x => by simp
    generalize ps[i] = p at hg hset
    generalize hK : ((k + 4 * i : Nat) : Int) = kk at w0 w1 w2 w3 ⊢
    have hfin : (rowUM k ps i).set i (.st [.int .i64 kk, .int .i64 (kk + 1), .int .i64 (kk + 2), .int .i64 (kk + 3)]) = rowUM k ps (i + 1) := by
      rw [← hset]; unfold markUni Uni.lv; rw [hK]
    generalize rowUM k ps i = L at hl hm hiL hg hlen hfin g1 ⊢
    have hgp : getP (.st L) [i] = some (.st [LV.int .i64 p.husband, LV.int .i64 p.wife, LV.int .i64 p.since, LV.int .i64 p.till]) := by simp [getP, hg, Uni.lv]
    have hgp0 : getP (.st L) [i, 0] = some (.int .i64 p.husband) := by simp [getP, hg, Uni.lv]
    ((repeat ((conv => whnf); first | refine brT ?_ | refine brF ?_)); conv => whnf)
    refine ⟨rfl, rfl, i, rfl, hiL, ?_⟩
    ((repeat ((conv => whnf); first | refine brT ?_ | refine brF ?_)); conv => whnf)
    refine ⟨rfl, by simp, [LV.int .i64 p.husband, LV.int .i64 p.wife, LV.int .i64 p.since, LV.int .i64 p.till], hgp, rfl, by simp, ?_⟩
    ((repeat ((conv => whnf); first | refine brT ?_ | refine brF ?_)); conv => whnf)
    refine ⟨rfl, i, [0], .int .i64 p.husband, rfl, hgp0, rfl, rfl, rfl, L.set i (.st [.int .i64 kk, .int .i64 p.wife, .int .i64 p.since, .int .i64 p.till]), by rw [hg]; rfl, ?_⟩
    ((repeat ((conv => whnf); first | refine brT ?_ | refine brF ?_)); conv => whnf)
    rw [w0]
    refine ⟨hlen _, rfl, i, rfl, by simpa using hiL, ?_⟩
    ((repeat ((conv => whnf); first | refine brT ?_ | refine brF ?_)); conv => whnf)
    refine ⟨hlen _, by simp, _, fw_get hiL _, rfl, by simp, ?_⟩
    ((repeat ((conv => whnf); first | refine brT ?_ | refine brF ?_)); conv => whnf)
    refine ⟨hlen _, i, [1], _, rfl, fw_get2 hiL rfl, rfl, rfl, rfl, _, fw_set hiL rfl (.int .i64 (kk + 1)), ?_⟩
    ((repeat ((conv => whnf); first | refine brT ?_ | refine brF ?_)); conv => whnf)
    rw [w1]
    refine ⟨hlen _, rfl, i, rfl, by simpa using hiL, ?_⟩
    ((repeat ((conv => whnf); first | refine brT ?_ | refine brF ?_)); conv => whnf)
    refine ⟨hlen _, by simp, _, fw_get hiL _, rfl, by simp, ?_⟩
    ((repeat ((conv => whnf); first | refine brT ?_ | refine brF ?_)); conv => whnf)
    refine ⟨hlen _, i, [2], _, rfl, fw_get2 hiL rfl, rfl, rfl, rfl, _, fw_set hiL rfl (.int .i64 (kk + 2)), ?_⟩
    ((repeat ((conv => whnf); first | refine brT ?_ | refine brF ?_)); conv => whnf)
    rw [w2]
    refine ⟨hlen _, rfl, i, rfl, by simpa using hiL, ?_⟩
    ((repeat ((conv => whnf); first | refine brT ?_ | refine brF ?_)); conv => whnf)
    refine ⟨hlen _, by simp, _, fw_get hiL _, rfl, by simp, ?_⟩
    ((repeat ((conv => whnf); first | refine brT ?_ | refine brF ?_)); conv => whnf)
    refine ⟨hlen _, i, [3], _, rfl, fw_get2 hiL rfl, rfl, rfl, rfl, _, fw_set hiL rfl (.int .i64 (kk + 3)), ?_⟩
    ((repeat ((conv => whnf); first | refine brT ?_ | refine brF ?_)); conv => whnf)
    have e5 : LV.hs 0 L.length = LV.hs 0 (rowUM k ps (i + 1)).length := by rw [hl, rowUM_len (by omega)]
    have e6 : LV.int .i64 (IntKind.i64.wrap (kk + 3 + 1)) = LV.int .i64 ((k + 4 * (i + 1) : Nat) : Int) := by rw [w3]
    refine round_end (i + 1) hlt (by omega) ⟨?_, ⟨congrArg (Blk.arr 131 4) hfin, trivial⟩, rfl, rfl⟩
    repeat ((conv => whnf); first | refine ⟨e, ?_⟩ | refine ⟨e6, ?_⟩ | refine ⟨e5, ?_⟩ | refine ⟨rfl, ?_⟩)
    trivial
  · have h3 : i = ps.length := by rw [ltI_f] at g1; omega
    subst h3
    ((repeat ((conv => whnf); first | refine brT ?_ | refine brF ?_)); conv => whnf)
    exact ⟨[.int .i64 ((k + 4 * ps.length : Nat) : Int)], rfl, rfl, .inl ⟨⟨rfl, trivial⟩, ⟨by simp [rowUM], trivial⟩, rfl, rfl⟩⟩

theorem markFamily_spec (ps : List Per) (us : List Uni) (k : Nat) (h1 : k + 6 * ps.length + 4 * us.length ≤ 2305843009213693952) :
    HSpec env.P 19 [famHS ps.length us.length, .int .i64 (k : Int)] [.arr 102 6 (ps.map Per.lv), .arr 131 4 (us.map Uni.lv)] (.int .i64 ((k + 6 * ps.length + 4 * us.length : Nat) : Int))
      [.arr 102 6 ((markPers k ps.length).map Per.lv), .arr 131 4 ((markUnis (k + 6 * ps.length) us.length).map Uni.lv)] := by
  refine HSpec_of_code (E := env.x [71, 72] 2) env_ok.x (fn := Try.f19) Try.func19 rfl Try.call19 _ _ _ _ ?_
  ((repeat ((conv => whnf); first | refine brT ?_ | refine brF ?_)); conv => whnf)
  refine ⟨[0], _, _, _, _, markPersonS_spec ps ps.length (by simp) k (by omega), rfl, rfl, rfl, trivial, ?_⟩
  ((repeat ((conv => whnf); first | refine brT ?_ | refine brF ?_)); conv => whnf)
  refine ⟨[1], _, _, _, _, markUnionS_spec us us.length (by simp) (k + 6 * ps.length) (by omega), rfl, rfl, rfl, trivial, ?_⟩
  ((repeat ((conv => whnf); first | refine brT ?_ | refine brF ?_)); conv => whnf)
  exact ⟨[.int .i64 ((k + 6 * ps.length + 4 * us.length : Nat) : Int)], rfl, rfl, .inl ⟨⟨rfl, trivial⟩, ⟨rfl, rfl, trivial⟩, rfl, rfl⟩⟩

theorem knownParents_h (p : Per) : HSpec env.P 118 [p.lv] [] (.hs 0 ((known p).map intLV).length) [.arr 3 1 ((known p).map intLV)] := by
  refine HSpec_of_code (E := env.x [] 0) env_ok.x (fn := Try.f118) Try.func118 rfl Try.call118 _ _ _ _ ?_
  ((repeat ((conv => whnf); first | refine brT ?_ | refine brF ?_)); conv => whnf)
  refine ⟨rfl, fun _ => ?_⟩
  ((repeat ((conv => whnf); first | refine brT ?_ | refine brF ?_)); conv => whnf)
  refine loop_ruleR (α := Nat) [.old 0, .old 1, .nil 3 1] (fun k => [(12, .int .i64 (k : Int)), (3, .hs 2 ((knownTo p k).map intLV).length)]) (fun k => [.box p.lv, .arr 3 1 [.int .i64 p.father, .int .i64 p.mother], .arr 3 1 ((knownTo p k).map intLV)])
    (fun k => 2 - k) (fun k => k ≤ 2) 0 (by omega) ?_ ?_
  · refine ⟨?_, ⟨rfl, rfl, rfl, rfl, rfl, rfl, trivial⟩, rfl⟩
    ((repeat ((conv => whnf); refine ⟨rfl, rfl, ?_⟩)); trivial)
  intro k hk
  ((repeat ((conv => whnf); first | refine brT ?_ | refine brF ?_)); conv => whnf)
  have hn := knownTo_len p k
  have hn1 := knownTo_len p (k + 1)
  (refine ⟨fun h1 => ?_, fun h1 => ?_⟩ <;> rw [h1])
  · have hlt : k < 2 := by rw [ltI_t] at h1; simp at h1; omega
    have hs := knownTo_succ p k hlt
    ((repeat ((conv => whnf); first | refine brT ?_ | refine brF ?_)); conv => whnf)
    refine ⟨rfl, by decide, k, rfl, hlt, ?_⟩
    ((repeat ((conv => whnf); first | refine brT ?_ | refine brF ?_)); conv => whnf)
    refine ⟨rfl, by simp, .int .i64 ([p.father, p.mother][k]'hlt), ?_, rfl, ?_⟩
    · match k, hlt with
      | 0, _ => rfl
      | 1, _ => rfl
    ((repeat ((conv => whnf); first | refine brT ?_ | refine brF ?_)); conv => whnf)
    have e : LV.int .i64 (IntKind.i64.wrap ((k : Int) + 1)) = LV.int .i64 ((k + 1 : Nat) : Int) := step_i hlt (by decide)
    (refine ⟨fun h2 => ?_, fun h2 => ?_⟩ <;> rw [h2])
    · rw [show notNone ([p.father, p.mother][k]'hlt) = true from h2, if_pos rfl] at hs
      have e2 : ((knownTo p k).map intLV ++ [LV.int .i64 ([p.father, p.mother][k]'hlt)]) = (knownTo p (k + 1)).map intLV := by rw [hs, List.map_append]; rfl
      have e3 : LV.hs 2 ((knownTo p k).map intLV ++ [LV.int .i64 ([p.father, p.mother][k]'hlt)]).length = LV.hs 2 ((knownTo p (k + 1)).map intLV).length := by rw [e2]
      ((repeat ((conv => whnf); first | refine brT ?_ | refine brF ?_)); conv => whnf)
      refine ⟨rfl, rfl, ?_, ?_, ?_⟩
      · rw [e2]; unfold Go.maxLen; simp; omega
      · rw [e2]; simp; omega
      ((repeat ((conv => whnf); first | refine brT ?_ | refine brF ?_)); conv => whnf)
      refine round_endR [.old 0, .old 1, .old 4] (k + 1) hlt (by omega) ⟨?_, ⟨rfl, rfl, rfl, rfl, rfl, congrArg (Blk.arr 3 1) e2, trivial⟩, rfl⟩
      repeat ((conv => whnf); first | refine ⟨rfl, e, ?_⟩ | refine ⟨rfl, e3, ?_⟩ | refine ⟨rfl, rfl, ?_⟩)
      trivial
    · rw [show notNone ([p.father, p.mother][k]'hlt) = false from h2, if_neg (by decide), List.append_nil] at hs
      have e2 : (knownTo p k).map intLV = (knownTo p (k + 1)).map intLV := by rw [hs]
      have e3 : LV.hs 2 ((knownTo p k).map intLV).length = LV.hs 2 ((knownTo p (k + 1)).map intLV).length := by rw [e2]
      ((repeat ((conv => whnf); first | refine brT ?_ | refine brF ?_)); conv => whnf)
      refine round_end (k + 1) hlt (by omega) ⟨?_, ⟨rfl, rfl, congrArg (Blk.arr 3 1) e2, trivial⟩, rfl, rfl⟩
      repeat ((conv => whnf); first | refine ⟨e, ?_⟩ | refine ⟨e3, ?_⟩ | refine ⟨rfl, ?_⟩)
      trivial
  · have h3 : k = 2 := by rw [ltI_f] at h1; simp at h1; omega
    subst h3
    ((repeat ((conv => whnf); first | refine brT ?_ | refine brF ?_)); conv => whnf)
    exact ⟨[.hs 0 ((known p).map intLV).length], rfl, rfl, .inr ⟨[.old 2], ⟨rfl, rfl, trivial⟩, ⟨rfl, rfl, trivial⟩, rfl⟩⟩

def parentsL (ps : List Per) (us : List Uni) (p : Int) : List Int := match hasP ps us p with
  | true => match ps[p.toNat]? with | some x => known x | none => []
  | false => []
theorem toFamily_hm (ps : List Per) (us : List Uni) (hp : 56 * ps.length ≤ 281474976710656) (hu : 32 * us.length ≤ 281474976710656) :
    HSpec env.P 14 [famLV ps us] [] (famHS (ps.map Per.lv).length (us.map Uni.lv).length) [.arr 102 6 (ps.map Per.lv), .arr 131 4 (us.map Uni.lv)] := by
  rw [List.length_map, List.length_map]; exact toFamily_h ps us hp hu
theorem markFamily_hm (ps : List Per) (us : List Uni) (k : Nat) (h1 : k + 6 * ps.length + 4 * us.length ≤ 2305843009213693952) :
    HSpec env.P 19 [famHS (ps.map Per.lv).length (us.map Uni.lv).length, .int .i64 (k : Int)] [.arr 102 6 (ps.map Per.lv), .arr 131 4 (us.map Uni.lv)] (.int .i64 ((k + 6 * ps.length + 4 * us.length : Nat) : Int))
      [.arr 102 6 ((markPers k ps.length).map Per.lv), .arr 131 4 ((markUnis (k + 6 * ps.length) us.length).map Uni.lv)] := by
  rw [List.length_map, List.length_map]; exact markFamily_spec ps us k h1
end Go.Proofs.Ytdppjbiphekgjaa

namespace Go.Proofs.Ytdppjbiphekgjaa
open Go.Lg
set_option maxHeartbeats 1600000
set_option maxRecDepth 10000
set_option linter.unusedVariables false
set_option linter.unusedSimpArgs false

theorem parIn_cases {x : Int} {n : Nat} (h : parIn x n) : x = -1 ∨ 0 ≤ x := by
  rcases h with h | h
  · exact .inl h
  · exact .inr h.1

theorem known_len (p : Per) : (known p).length ≤ 2 := knownTo_len p 2
theorem parentsL_len (ps : List Per) (us : List Uni) (p : Int) : (parentsL ps us p).length ≤ 2 := by
  unfold parentsL
  split
  · split
    · exact known_len _
    · simp
  · simp

end Go.Proofs.Ytdppjbiphekgjaa
namespace Go.Proofs.Ytdppjbiphekgjaa
open Go.Lg
set_option maxHeartbeats 1600000
set_option maxRecDepth 10000
set_option linter.unusedVariables false
set_option linter.unusedSimpArgs false

/-! A table that is filled row by row. -/
def doneP (N : Nat) (V : Nat → Nat → Bool) (k i : Nat) : Nat → Nat → Bool := fun a b => decide ((a < k ∧ b < N) ∨ (a = k ∧ b < i)) && V a b
theorem doneP_zero (N : Nat) (V : Nat → Nat → Bool) : doneP N V 0 0 = fun _ _ => false := by funext a b; simp [doneP]
theorem doneP_put {N : Nat} {V : Nat → Nat → Bool} {k i : Nat} (hi : i < N) : putP (doneP N V k i) k i (V k i) = doneP N V k (i + 1) := by
  funext a b
  unfold putP doneP
  by_cases h : a = k ∧ b = i
  · obtain ⟨rfl, rfl⟩ := h; simp
  · rw [if_neg h]
    congr 1
    rw [decide_eq_decide]
    constructor
    · rintro (h1 | h1)
      · exact .inl h1
      · exact .inr ⟨h1.1, by omega⟩
    · rintro (h1 | h1)
      · exact .inl h1
      · exact .inr ⟨h1.1, by omega⟩
theorem doneP_skip {N : Nat} {V : Nat → Nat → Bool} {k i : Nat} (hi : i < N) (h : V k i = false) : doneP N V k i = doneP N V k (i + 1) := by
  rw [← doneP_put hi, h]
  funext a b
  unfold putP
  by_cases e : a = k ∧ b = i
  · obtain ⟨rfl, rfl⟩ := e; rw [if_pos ⟨rfl, rfl⟩]; simp [doneP, h]
  · rw [if_neg e]
theorem doneP_row (N : Nat) (V : Nat → Nat → Bool) (k : Nat) : doneP N V k N = doneP N V (k + 1) 0 := by
  funext a b
  unfold doneP
  congr 1
  rw [decide_eq_decide]
  omega
theorem doneP_all (N : Nat) (V : Nat → Nat → Bool) : ∀ a, a < N → ∀ b, b < N → doneP N V N 0 a b = V a b := fun a ha b hb => by simp [doneP, ha, hb]

/-! ### Steps in a family, as the model has them -/
theorem l1Other_spec (u : Uni) (a : Int) : FSpec env.P 156 [u.lv, .int .i64 a]
    (match eqI u.husband a with | true => .tup [.int .i64 u.wife, .bool true] | false => .tup [.int .i64 u.husband, .bool (eqI u.wife a)]) := by
  refine FSpec_of_code env_ok (fn := Try.f156) Try.func156 rfl Try.call156 _ _ ?_
  ((repeat ((conv => whnf); first | refine brT ?_ | refine brF ?_)); conv => whnf)
  (refine ⟨fun h => ?_, fun h => ?_⟩ <;> rw [h])
  · ((repeat ((conv => whnf); first | refine brT ?_ | refine brF ?_)); conv => whnf); repeat' (first | rfl | (refine And.intro ?_ ?_) | exact List.nodup_nil)
  · ((repeat ((conv => whnf); first | refine brT ?_ | refine brF ?_)); conv => whnf)
    refine ⟨true, by kernel_rfl, ?_⟩
    ((repeat ((conv => whnf); first | refine brT ?_ | refine brF ?_)); conv => whnf)
    repeat' (first | rfl | (refine And.intro ?_ ?_) | exact List.nodup_nil)
def fullB (x y : Per) (a b : Int) : Bool := notB (eqI a b) && (leI 0 x.father && (leI 0 x.mother && (eqI x.father y.father && eqI x.mother y.mother)))
theorem l1Full_spec (ps : List Per) (us : List Uni) (a b : Nat) (ha : a < ps.length) (hb : b < ps.length) :
    FSpec env.P 98 [famLV ps us, .int .i64 (a : Int), .int .i64 (b : Int)] (.bool (fullB ps[a] ps[b] a b)) := by
  refine FSpec_of_code env_ok (fn := Try.f98) Try.func98 rfl Try.call98 _ _ ?_
  ((repeat ((conv => whnf); first | refine brT ?_ | refine brF ?_)); conv => whnf)
  refine ⟨a, ps[a].lv, rfl, by simp [ha], rfl, ?_⟩
  ((repeat ((conv => whnf); first | refine brT ?_ | refine brF ?_)); conv => whnf)
  refine ⟨b, ps[b].lv, rfl, by simp [hb], rfl, ?_⟩
  ((repeat' (((repeat ((conv => whnf); first | refine brT ?_ | refine brF ?_)); conv => whnf); (refine And.intro ?_ ?_ <;> (intro h; rw [h]; revert h; intro _)))); all_goals ((repeat ((conv => whnf); first | refine brT ?_ | refine brF ?_)); conv => whnf))
  all_goals (refine fin ?_; simp [fullB, *])
def wedB (a b : Int) (u : Uni) : Bool := match eqI u.husband a with | true => eqI u.wife b | false => eqI u.wife a && eqI u.husband b
def ageB (ps : List Per) (g a b : Int) : Bool := (notB (eqI g 1) || elder ps b a) && (notB (eqI g 2) || elder ps a b)
def kinB (ps : List Per) (us : List Uni) (k g : Int) (x y : Per) (a b : Int) : Bool := match eqI k 1 with
  | true => eqI x.father b
  | false => match eqI k 2 with
    | true => eqI x.mother b
    | false => match eqI k 5 || eqI k 6 with
      | true => eqI y.father a || eqI y.mother a
      | false => match eqI k 7 || eqI k 8 with
        | true => us.any (wedB a b)
        | false => ageB ps g a b && fullB x y a b
def l3P (ps : List Per) (us : List Uni) (s : Pr) (a b : Nat) : Bool := match ps[a]?, ps[b]? with
  | some x, some y => eqI y.sex (sxOf s.a) && kinB ps us s.a s.b x y a b
  | _, _ => false
end Go.Proofs.Ytdppjbiphekgjaa

namespace Go.Proofs.Ytdppjbiphekgjaa
open Go.Lg
set_option maxHeartbeats 6400000
set_option maxRecDepth 10000
set_option linter.unusedVariables false
set_option linter.unusedSimpArgs false

theorem l3Leads_no (ps : List Per) (us : List Uni) (s : Pr) (a b : Nat) (ha : a < ps.length) (hb : b < ps.length) (h : eqI ps[b].sex (sxOf s.a) = false) :
    FSpec env.P 125 [famLV ps us, s.lv, .int .i64 (a : Int), .int .i64 (b : Int)] (.bool (l3P ps us s a b)) := by
  have hV : l3P ps us s a b = (eqI ps[b].sex (sxOf s.a) && kinB ps us s.a s.b ps[a] ps[b] a b) := by simp [l3P, ha, hb]
  refine FSpec_of_code env_ok (fn := Try.f125) Try.func125 rfl Try.call125 _ _ ?_
  ((repeat ((conv => whnf); first | refine brT ?_ | refine brF ?_)); conv => whnf)
  refine ⟨a, ps[a].lv, rfl, by simp [ha], rfl, ?_⟩
  ((repeat ((conv => whnf); first | refine brT ?_ | refine brF ?_)); conv => whnf)
  refine ⟨b, ps[b].lv, rfl, by simp [hb], rfl, ?_⟩
  ((repeat ((conv => whnf); first | refine brT ?_ | refine brF ?_)); conv => whnf)
  refine ⟨true, by kernel_rfl, ?_⟩
  ((repeat ((conv => whnf); first | refine brT ?_ | refine brF ?_)); conv => whnf)
  refine ⟨_, l3Sex_spec _, ?_⟩
  ((repeat ((conv => whnf); first | refine brT ?_ | refine brF ?_)); conv => whnf)
  rw [h, show notB false = true by simp [notB]]
  ((repeat ((conv => whnf); first | refine brT ?_ | refine brF ?_)); conv => whnf)
  refine fin ?_
  simp [hV, h]
end Go.Proofs.Ytdppjbiphekgjaa

namespace Go.Proofs.Ytdppjbiphekgjaa
open Go.Lg
set_option maxHeartbeats 6400000
set_option maxRecDepth 10000
set_option linter.unusedVariables false
set_option linter.unusedSimpArgs false

theorem l3Leads_kin (ps : List Per) (us : List Uni) (s : Pr) (a b : Nat) (ha : a < ps.length) (hb : b < ps.length) (h : eqI ps[b].sex (sxOf s.a) = true) (hk : (eqI s.a 1 || eqI s.a 2 || eqI s.a 5 || eqI s.a 6) = true) :
    FSpec env.P 125 [famLV ps us, s.lv, .int .i64 (a : Int), .int .i64 (b : Int)] (.bool (l3P ps us s a b)) := by
  have hV : l3P ps us s a b = (eqI ps[b].sex (sxOf s.a) && kinB ps us s.a s.b ps[a] ps[b] a b) := by simp [l3P, ha, hb]
  refine FSpec_of_code env_ok (fn := Try.f125) Try.func125 rfl Try.call125 _ _ ?_
  ((repeat ((conv => whnf); first | refine brT ?_ | refine brF ?_)); conv => whnf)
  refine ⟨a, ps[a].lv, rfl, by simp [ha], rfl, ?_⟩
  ((repeat ((conv => whnf); first | refine brT ?_ | refine brF ?_)); conv => whnf)
  refine ⟨b, ps[b].lv, rfl, by simp [hb], rfl, ?_⟩
  ((repeat ((conv => whnf); first | refine brT ?_ | refine brF ?_)); conv => whnf)
  refine ⟨true, by kernel_rfl, ?_⟩
  ((repeat ((conv => whnf); first | refine brT ?_ | refine brF ?_)); conv => whnf)
  refine ⟨_, l3Sex_spec _, ?_⟩
  ((repeat ((conv => whnf); first | refine brT ?_ | refine brF ?_)); conv => whnf)
  rw [h, show notB true = false by simp [notB]]
  ((repeat ((conv => whnf); first | refine brT ?_ | refine brF ?_)); conv => whnf)
  (refine ⟨fun h1 => ?_, fun h1 => ?_⟩ <;> rw [h1])
  · ((repeat ((conv => whnf); first | refine brT ?_ | refine brF ?_)); conv => whnf)
    refine fin ?_
    simp [hV, h, kinB, h1]
  ((repeat ((conv => whnf); first | refine brT ?_ | refine brF ?_)); conv => whnf)
  (refine ⟨fun h2 => ?_, fun h2 => ?_⟩ <;> rw [h2])
  · ((repeat ((conv => whnf); first | refine brT ?_ | refine brF ?_)); conv => whnf)
    refine fin ?_
    simp [hV, h, kinB, h1, h2]
  ((repeat ((conv => whnf); first | refine brT ?_ | refine brF ?_)); conv => whnf)
  (refine ⟨fun h5 => ?_, fun h5 => ?_⟩ <;> rw [h5])
  · ((repeat ((conv => whnf); first | refine brT ?_ | refine brF ?_)); conv => whnf)
    (refine ⟨fun h9 => ?_, fun h9 => ?_⟩ <;> rw [h9])
    · ((repeat ((conv => whnf); first | refine brT ?_ | refine brF ?_)); conv => whnf)
      refine fin ?_
      simp [hV, h, kinB, h1, h2, h5, h9]
    · ((repeat ((conv => whnf); first | refine brT ?_ | refine brF ?_)); conv => whnf)
      refine fin ?_
      simp [hV, h, kinB, h1, h2, h5, h9]
  have h6 : eqI s.a 6 = true := by simpa [h1, h2, h5] using hk
  ((repeat ((conv => whnf); first | refine brT ?_ | refine brF ?_)); conv => whnf)
  rw [h6]
  ((repeat ((conv => whnf); first | refine brT ?_ | refine brF ?_)); conv => whnf)
  (refine ⟨fun h9 => ?_, fun h9 => ?_⟩ <;> rw [h9])
  · ((repeat ((conv => whnf); first | refine brT ?_ | refine brF ?_)); conv => whnf)
    refine fin ?_
    simp [hV, h, kinB, h1, h2, h5, h6, h9]
  · ((repeat ((conv => whnf); first | refine brT ?_ | refine brF ?_)); conv => whnf)
    refine fin ?_
    simp [hV, h, kinB, h1, h2, h5, h6, h9]
end Go.Proofs.Ytdppjbiphekgjaa

namespace Go.Proofs.Ytdppjbiphekgjaa
open Go.Lg
set_option maxHeartbeats 6400000
set_option maxRecDepth 10000
set_option linter.unusedVariables false
set_option linter.unusedSimpArgs false

theorem l3Leads_wed7 (ps : List Per) (us : List Uni) (s : Pr) (a b : Nat) (ha : a < ps.length) (hb : b < ps.length) (h : eqI ps[b].sex (sxOf s.a) = true) (h1 : eqI s.a 1 = false) (h2 : eqI s.a 2 = false) (h5 : eqI s.a 5 = false) (h6 : eqI s.a 6 = false) (h7 : eqI s.a 7 = true) :
    FSpec env.P 125 [famLV ps us, s.lv, .int .i64 (a : Int), .int .i64 (b : Int)] (.bool (l3P ps us s a b)) := by
  have hV : l3P ps us s a b = (eqI ps[b].sex (sxOf s.a) && kinB ps us s.a s.b ps[a] ps[b] a b) := by simp [l3P, ha, hb]
  refine FSpec_of_code env_ok (fn := Try.f125) Try.func125 rfl Try.call125 _ _ ?_
  ((repeat ((conv => whnf); first | refine brT ?_ | refine brF ?_)); conv => whnf)
  refine ⟨a, ps[a].lv, rfl, by simp [ha], rfl, ?_⟩
  ((repeat ((conv => whnf); first | refine brT ?_ | refine brF ?_)); conv => whnf)
  refine ⟨b, ps[b].lv, rfl, by simp [hb], rfl, ?_⟩
  ((repeat ((conv => whnf); first | refine brT ?_ | refine brF ?_)); conv => whnf)
  refine ⟨true, by kernel_rfl, ?_⟩
  ((repeat ((conv => whnf); first | refine brT ?_ | refine brF ?_)); conv => whnf)
  refine ⟨_, l3Sex_spec _, ?_⟩
  ((repeat ((conv => whnf); first | refine brT ?_ | refine brF ?_)); conv => whnf)
  rw [h, show notB true = false by simp [notB]]
  ((repeat ((conv => whnf); first | refine brT ?_ | refine brF ?_)); conv => whnf)
  rw [h1]
  ((repeat ((conv => whnf); first | refine brT ?_ | refine brF ?_)); conv => whnf)
  rw [h2]
  ((repeat ((conv => whnf); first | refine brT ?_ | refine brF ?_)); conv => whnf)
  rw [h5]
  ((repeat ((conv => whnf); first | refine brT ?_ | refine brF ?_)); conv => whnf)
  rw [h6]
  ((repeat ((conv => whnf); first | refine brT ?_ | refine brF ?_)); conv => whnf)
  rw [h7]
  have HK : (eqI ps[b].sex (sxOf s.a) && kinB ps us s.a s.b ps[a] ps[b] a b) = us.any (wedB a b) := by simp [h, kinB, h1, h2, h5, h6, h7]
  ((repeat ((conv => whnf); first | refine brT ?_ | refine brF ?_)); conv => whnf)
  intro hm
  have hm' : us.length ≤ Go.maxLen := by simpa using hm
  rw [show (List.map Uni.lv us).length = us.length by simp]
  ((repeat ((conv => whnf); first | refine brT ?_ | refine brF ?_)); conv => whnf)
  refine loop_rule (α := Nat) (fun k => [(64, .int .i64 (k : Int))]) (fun k => [.box (famLV ps us), .box s.lv, .box ps[a].lv, .box ps[b].lv]) (fun k => us.length - k) (fun k => k ≤ us.length ∧ (us.take k).any (wedB a b) = false) 0 ⟨Nat.zero_le _, rfl⟩ ?_ ?_
  · refine ⟨?_, ⟨rfl, rfl, rfl, rfl, trivial⟩, rfl, rfl⟩
    ((repeat ((conv => whnf); refine ⟨rfl, ?_⟩)); trivial)
  rintro k ⟨hk, hno⟩
  ((repeat ((conv => whnf); first | refine brT ?_ | refine brF ?_)); conv => whnf)
  (refine ⟨fun q => ?_, fun q => ?_⟩ <;> rw [q])
  · have hlt : k < us.length := by rw [ltI_t] at q; omega
    have e1 : LV.int .i64 (IntKind.i64.wrap ((k : Int) + 1)) = LV.int .i64 ((k + 1 : Nat) : Int) := step_i hlt hm'
    have hO := l1Other_spec us[k] (a : Int)
    have hyes : wedB a b us[k] = true → us.any (wedB a b) = true := fun hw => List.any_eq_true.2 ⟨us[k], by simp, hw⟩
    have hstep : wedB a b us[k] = false → (us.take (k + 1)).any (wedB a b) = false := fun hw => by rw [List.take_succ_eq_append_getElem hlt, List.any_append, hno]; simp [hw]
    ((repeat ((conv => whnf); first | refine brT ?_ | refine brF ?_)); conv => whnf)
    refine ⟨k, us[k].lv, rfl, by simp [hlt], rfl, ?_⟩
    ((repeat ((conv => whnf); first | refine brT ?_ | refine brF ?_)); conv => whnf)
    cases he : eqI us[k].husband (a : Int)
    · rw [he] at hO
      refine ⟨_, hO, ?_⟩
      ((repeat ((conv => whnf); first | refine brT ?_ | refine brF ?_)); conv => whnf)
      (refine ⟨fun q1 => ?_, fun q1 => ?_⟩ <;> rw [q1])
      · ((repeat ((conv => whnf); first | refine brT ?_ | refine brF ?_)); conv => whnf)
        (refine ⟨fun q2 => ?_, fun q2 => ?_⟩ <;> rw [q2])
        · ((repeat ((conv => whnf); first | refine brT ?_ | refine brF ?_)); conv => whnf)
          refine fin ?_
          rw [hV, HK, hyes (by simp [wedB, he, q1, q2])]
        · ((repeat ((conv => whnf); first | refine brT ?_ | refine brF ?_)); conv => whnf)
          refine round_end (k + 1) ⟨hlt, hstep (by simp [wedB, he, q1, q2])⟩ (by show us.length - (k + 1) < us.length - k; omega) ⟨?_, ⟨rfl, rfl, rfl, rfl, trivial⟩, rfl, rfl⟩
          ((repeat ((conv => whnf); first | refine ⟨e1, ?_⟩ | refine ⟨rfl, ?_⟩)); trivial)
      · ((repeat ((conv => whnf); first | refine brT ?_ | refine brF ?_)); conv => whnf)
        refine round_end (k + 1) ⟨hlt, hstep (by simp [wedB, he, q1])⟩ (by show us.length - (k + 1) < us.length - k; omega) ⟨?_, ⟨rfl, rfl, rfl, rfl, trivial⟩, rfl, rfl⟩
        ((repeat ((conv => whnf); first | refine ⟨e1, ?_⟩ | refine ⟨rfl, ?_⟩)); trivial)
    · rw [he] at hO
      refine ⟨_, hO, ?_⟩
      ((repeat ((conv => whnf); first | refine brT ?_ | refine brF ?_)); conv => whnf)
      (refine ⟨fun q2 => ?_, fun q2 => ?_⟩ <;> rw [q2])
      · ((repeat ((conv => whnf); first | refine brT ?_ | refine brF ?_)); conv => whnf)
        refine fin ?_
        rw [hV, HK, hyes (by simp [wedB, he, q2])]
      · ((repeat ((conv => whnf); first | refine brT ?_ | refine brF ?_)); conv => whnf)
        refine round_end (k + 1) ⟨hlt, hstep (by simp [wedB, he, q2])⟩ (by show us.length - (k + 1) < us.length - k; omega) ⟨?_, ⟨rfl, rfl, rfl, rfl, trivial⟩, rfl, rfl⟩
        ((repeat ((conv => whnf); first | refine ⟨e1, ?_⟩ | refine ⟨rfl, ?_⟩)); trivial)
  · have h3 : k = us.length := by rw [ltI_f] at q; omega
    subst h3
    rw [List.take_length] at hno
    ((repeat ((conv => whnf); first | refine brT ?_ | refine brF ?_)); conv => whnf)
    refine fin ?_
    rw [hV, HK, hno]
end Go.Proofs.Ytdppjbiphekgjaa

namespace Go.Proofs.Ytdppjbiphekgjaa
open Go.Lg
set_option maxHeartbeats 6400000
set_option maxRecDepth 10000
set_option linter.unusedVariables false
set_option linter.unusedSimpArgs false

theorem l3Leads_wed8 (ps : List Per) (us : List Uni) (s : Pr) (a b : Nat) (ha : a < ps.length) (hb : b < ps.length) (h : eqI ps[b].sex (sxOf s.a) = true) (h1 : eqI s.a 1 = false) (h2 : eqI s.a 2 = false) (h5 : eqI s.a 5 = false) (h6 : eqI s.a 6 = false) (h7 : eqI s.a 7 = false) (h8 : eqI s.a 8 = true) :
    FSpec env.P 125 [famLV ps us, s.lv, .int .i64 (a : Int), .int .i64 (b : Int)] (.bool (l3P ps us s a b)) := by
  have hV : l3P ps us s a b = (eqI ps[b].sex (sxOf s.a) && kinB ps us s.a s.b ps[a] ps[b] a b) := by simp [l3P, ha, hb]
  refine FSpec_of_code env_ok (fn := Try.f125) Try.func125 rfl Try.call125 _ _ ?_
  ((repeat ((conv => whnf); first | refine brT ?_ | refine brF ?_)); conv => whnf)
  refine ⟨a, ps[a].lv, rfl, by simp [ha], rfl, ?_⟩
  ((repeat ((conv => whnf); first | refine brT ?_ | refine brF ?_)); conv => whnf)
  refine ⟨b, ps[b].lv, rfl, by simp [hb], rfl, ?_⟩
  ((repeat ((conv => whnf); first | refine brT ?_ | refine brF ?_)); conv => whnf)
  refine ⟨true, by kernel_rfl, ?_⟩
  ((repeat ((conv => whnf); first | refine brT ?_ | refine brF ?_)); conv => whnf)
  refine ⟨_, l3Sex_spec _, ?_⟩
  ((repeat ((conv => whnf); first | refine brT ?_ | refine brF ?_)); conv => whnf)
  rw [h, show notB true = false by simp [notB]]
  ((repeat ((conv => whnf); first | refine brT ?_ | refine brF ?_)); conv => whnf)
  rw [h1]
  ((repeat ((conv => whnf); first | refine brT ?_ | refine brF ?_)); conv => whnf)
  rw [h2]
  ((repeat ((conv => whnf); first | refine brT ?_ | refine brF ?_)); conv => whnf)
  rw [h5]
  ((repeat ((conv => whnf); first | refine brT ?_ | refine brF ?_)); conv => whnf)
  rw [h6]
  ((repeat ((conv => whnf); first | refine brT ?_ | refine brF ?_)); conv => whnf)
  rw [h7]
  ((repeat ((conv => whnf); first | refine brT ?_ | refine brF ?_)); conv => whnf)
  rw [h8]
  have HK : (eqI ps[b].sex (sxOf s.a) && kinB ps us s.a s.b ps[a] ps[b] a b) = us.any (wedB a b) := by simp [h, kinB, h1, h2, h5, h6, h7, h8]
  ((repeat ((conv => whnf); first | refine brT ?_ | refine brF ?_)); conv => whnf)
  intro hm
  have hm' : us.length ≤ Go.maxLen := by simpa using hm
  rw [show (List.map Uni.lv us).length = us.length by simp]
  ((repeat ((conv => whnf); first | refine brT ?_ | refine brF ?_)); conv => whnf)
  refine loop_rule (α := Nat) (fun k => [(64, .int .i64 (k : Int))]) (fun k => [.box (famLV ps us), .box s.lv, .box ps[a].lv, .box ps[b].lv]) (fun k => us.length - k) (fun k => k ≤ us.length ∧ (us.take k).any (wedB a b) = false) 0 ⟨Nat.zero_le _, rfl⟩ ?_ ?_
  · refine ⟨?_, ⟨rfl, rfl, rfl, rfl, trivial⟩, rfl, rfl⟩
    ((repeat ((conv => whnf); refine ⟨rfl, ?_⟩)); trivial)
  rintro k ⟨hk, hno⟩
  ((repeat ((conv => whnf); first | refine brT ?_ | refine brF ?_)); conv => whnf)
  (refine ⟨fun q => ?_, fun q => ?_⟩ <;> rw [q])
  · have hlt : k < us.length := by rw [ltI_t] at q; omega
    have e1 : LV.int .i64 (IntKind.i64.wrap ((k : Int) + 1)) = LV.int .i64 ((k + 1 : Nat) : Int) := step_i hlt hm'
    have hO := l1Other_spec us[k] (a : Int)
    have hyes : wedB a b us[k] = true → us.any (wedB a b) = true := fun hw => List.any_eq_true.2 ⟨us[k], by simp, hw⟩
    have hstep : wedB a b us[k] = false → (us.take (k + 1)).any (wedB a b) = false := fun hw => by rw [List.take_succ_eq_append_getElem hlt, List.any_append, hno]; simp [hw]
    ((repeat ((conv => whnf); first | refine brT ?_ | refine brF ?_)); conv => whnf)
    refine ⟨k, us[k].lv, rfl, by simp [hlt], rfl, ?_⟩
    ((repeat ((conv => whnf); first | refine brT ?_ | refine brF ?_)); conv => whnf)
    cases he : eqI us[k].husband (a : Int)
    · rw [he] at hO
      refine ⟨_, hO, ?_⟩
      ((repeat ((conv => whnf); first | refine brT ?_ | refine brF ?_)); conv => whnf)
      (refine ⟨fun q1 => ?_, fun q1 => ?_⟩ <;> rw [q1])
      · ((repeat ((conv => whnf); first | refine brT ?_ | refine brF ?_)); conv => whnf)
        (refine ⟨fun q2 => ?_, fun q2 => ?_⟩ <;> rw [q2])
        · ((repeat ((conv => whnf); first | refine brT ?_ | refine brF ?_)); conv => whnf)
          refine fin ?_
          rw [hV, HK, hyes (by simp [wedB, he, q1, q2])]
        · ((repeat ((conv => whnf); first | refine brT ?_ | refine brF ?_)); conv => whnf)
          refine round_end (k + 1) ⟨hlt, hstep (by simp [wedB, he, q1, q2])⟩ (by show us.length - (k + 1) < us.length - k; omega) ⟨?_, ⟨rfl, rfl, rfl, rfl, trivial⟩, rfl, rfl⟩
          ((repeat ((conv => whnf); first | refine ⟨e1, ?_⟩ | refine ⟨rfl, ?_⟩)); trivial)
      · ((repeat ((conv => whnf); first | refine brT ?_ | refine brF ?_)); conv => whnf)
        refine round_end (k + 1) ⟨hlt, hstep (by simp [wedB, he, q1])⟩ (by show us.length - (k + 1) < us.length - k; omega) ⟨?_, ⟨rfl, rfl, rfl, rfl, trivial⟩, rfl, rfl⟩
        ((repeat ((conv => whnf); first | refine ⟨e1, ?_⟩ | refine ⟨rfl, ?_⟩)); trivial)
    · rw [he] at hO
      refine ⟨_, hO, ?_⟩
      ((repeat ((conv => whnf); first | refine brT ?_ | refine brF ?_)); conv => whnf)
      (refine ⟨fun q2 => ?_, fun q2 => ?_⟩ <;> rw [q2])
      · ((repeat ((conv => whnf); first | refine brT ?_ | refine brF ?_)); conv => whnf)
        refine fin ?_
        rw [hV, HK, hyes (by simp [wedB, he, q2])]
      · ((repeat ((conv => whnf); first | refine brT ?_ | refine brF ?_)); conv => whnf)
        refine round_end (k + 1) ⟨hlt, hstep (by simp [wedB, he, q2])⟩ (by show us.length - (k + 1) < us.length - k; omega) ⟨?_, ⟨rfl, rfl, rfl, rfl, trivial⟩, rfl, rfl⟩
        ((repeat ((conv => whnf); first | refine ⟨e1, ?_⟩ | refine ⟨rfl, ?_⟩)); trivial)
  · have h3 : k = us.length := by rw [ltI_f] at q; omega
    subst h3
    rw [List.take_length] at hno
    ((repeat ((conv => whnf); first | refine brT ?_ | refine brF ?_)); conv => whnf)
    refine fin ?_
    rw [hV, HK, hno]
end Go.Proofs.Ytdppjbiphekgjaa

namespace Go.Proofs.Ytdppjbiphekgjaa
open Go.Lg
set_option maxHeartbeats 6400000
set_option maxRecDepth 10000
set_option linter.unusedVariables false
set_option linter.unusedSimpArgs false

theorem l3Leads_sib (ps : List Per) (us : List Uni) (s : Pr) (a b : Nat) (ha : a < ps.length) (hb : b < ps.length) (h : eqI ps[b].sex (sxOf s.a) = true) (h1 : eqI s.a 1 = false) (h2 : eqI s.a 2 = false) (h5 : eqI s.a 5 = false) (h6 : eqI s.a 6 = false) (h7 : eqI s.a 7 = false) (h8 : eqI s.a 8 = false) :
    FSpec env.P 125 [famLV ps us, s.lv, .int .i64 (a : Int), .int .i64 (b : Int)] (.bool (l3P ps us s a b)) := by
  have hV : l3P ps us s a b = (eqI ps[b].sex (sxOf s.a) && kinB ps us s.a s.b ps[a] ps[b] a b) := by simp [l3P, ha, hb]
  refine FSpec_of_code env_ok (fn := Try.f125) Try.func125 rfl Try.call125 _ _ ?_
  ((repeat ((conv => whnf); first | refine brT ?_ | refine brF ?_)); conv => whnf)
  refine ⟨a, ps[a].lv, rfl, by simp [ha], rfl, ?_⟩
  ((repeat ((conv => whnf); first | refine brT ?_ | refine brF ?_)); conv => whnf)
  refine ⟨b, ps[b].lv, rfl, by simp [hb], rfl, ?_⟩
  ((repeat ((conv => whnf); first | refine brT ?_ | refine brF ?_)); conv => whnf)
  refine ⟨true, by kernel_rfl, ?_⟩
  ((repeat ((conv => whnf); first | refine brT ?_ | refine brF ?_)); conv => whnf)
  refine ⟨_, l3Sex_spec _, ?_⟩
  ((repeat ((conv => whnf); first | refine brT ?_ | refine brF ?_)); conv => whnf)
  rw [h, show notB true = false by simp [notB]]
  ((repeat ((conv => whnf); first | refine brT ?_ | refine brF ?_)); conv => whnf)
  rw [h1]
  ((repeat ((conv => whnf); first | refine brT ?_ | refine brF ?_)); conv => whnf)
  rw [h2]
  ((repeat ((conv => whnf); first | refine brT ?_ | refine brF ?_)); conv => whnf)
  rw [h5]
  ((repeat ((conv => whnf); first | refine brT ?_ | refine brF ?_)); conv => whnf)
  rw [h6]
  ((repeat ((conv => whnf); first | refine brT ?_ | refine brF ?_)); conv => whnf)
  rw [h7]
  ((repeat ((conv => whnf); first | refine brT ?_ | refine brF ?_)); conv => whnf)
  rw [h8]
  ((repeat ((conv => whnf); first | refine brT ?_ | refine brF ?_)); conv => whnf)
  have HK : (eqI ps[b].sex (sxOf s.a) && kinB ps us s.a s.b ps[a] ps[b] a b) = (ageB ps s.b a b && fullB ps[a] ps[b] a b) := by simp [h, kinB, h1, h2, h5, h6, h7, h8]
  rw [hV, HK]
  ((repeat' (((repeat ((conv => whnf); first | refine brT ?_ | refine brF ?_)); conv => whnf); first | (refine And.intro ?_ ?_ <;> (intro h; rw [h]; revert h; intro _)) | (refine Exists.intro true (And.intro (a := drawB _ _ = true) (by kernel_rfl) ?_)) | (refine Exists.intro _ (And.intro (l1Elder_spec ps us (b : Int) (a : Int) (by omega) (by simpa using hb) (by omega) (by simpa using ha)) ?_)) | (refine Exists.intro _ (And.intro (l1Elder_spec ps us (a : Int) (b : Int) (by omega) (by simpa using ha) (by omega) (by simpa using hb)) ?_)) | (refine Exists.intro _ (And.intro (l1Full_spec ps us a b ha hb) ?_)))); all_goals ((repeat ((conv => whnf); first | refine brT ?_ | refine brF ?_)); conv => whnf))
  all_goals (refine fin ?_; clear HK hV; unfold ageB; simp only [notB_d] at *; simp_all)
end Go.Proofs.Ytdppjbiphekgjaa

namespace Go.Proofs.Ytdppjbiphekgjaa
open Go.Lg
set_option maxHeartbeats 6400000
set_option maxRecDepth 10000
set_option linter.unusedVariables false
set_option linter.unusedSimpArgs false

theorem l3Leads_spec (ps : List Per) (us : List Uni) (s : Pr) (a b : Nat) (ha : a < ps.length) (hb : b < ps.length) :
    FSpec env.P 125 [famLV ps us, s.lv, .int .i64 (a : Int), .int .i64 (b : Int)] (.bool (l3P ps us s a b)) := by
  cases h : eqI ps[b].sex (sxOf s.a)
  · exact l3Leads_no ps us s a b ha hb h
  cases h1 : eqI s.a 1
  rotate_left
  · exact l3Leads_kin ps us s a b ha hb h (by simp [h1])
  cases h2 : eqI s.a 2
  rotate_left
  · exact l3Leads_kin ps us s a b ha hb h (by simp [h2])
  cases h5 : eqI s.a 5
  rotate_left
  · exact l3Leads_kin ps us s a b ha hb h (by simp [h5])
  cases h6 : eqI s.a 6
  rotate_left
  · exact l3Leads_kin ps us s a b ha hb h (by simp [h6])
  cases h7 : eqI s.a 7
  rotate_left
  · exact l3Leads_wed7 ps us s a b ha hb h h1 h2 h5 h6 h7
  cases h8 : eqI s.a 8
  rotate_left
  · exact l3Leads_wed8 ps us s a b ha hb h h1 h2 h5 h6 h7 h8
  · exact l3Leads_sib ps us s a b ha hb h h1 h2 h5 h6 h7 h8
end Go.Proofs.Ytdppjbiphekgjaa

namespace Go.Proofs.Ytdppjbiphekgjaa
open Go.Lg
set_option maxHeartbeats 3200000
set_option maxRecDepth 10000
set_option linter.unusedVariables false
set_option linter.unusedSimpArgs false

theorem l3Grid_h (ps : List Per) (us : List Uni) (s : Pr) (hN : ps.length ≤ 40) :
    HSpec env.P 61 [famLV ps us, s.lv] [] (.hs 0 ps.length) [.tree 103 1 ((gridP ps.length (doneP ps.length (l3P ps us s) ps.length 0)).map lineOw)] := by
  refine HSpec_of_code (E := env.x [124] 0) env_ok.x (fn := Try.f61) Try.func61 rfl Try.call61 _ _ _ _ ?_
  ((repeat ((conv => whnf); first | refine brT ?_ | refine brF ?_)); conv => whnf)
  intro hm
  have hm' : ps.length ≤ Go.maxLen := by simpa using hm
  rw [show (List.map Per.lv ps).length = ps.length by simp]
  ((repeat ((conv => whnf); first | refine brT ?_ | refine brF ?_)); conv => whnf)
  refine ⟨[], _, _, _, _, l2Blank_P ps.length hN, rfl, rfl, rfl, trivial, ?_⟩
  rw [← doneP_zero ps.length (l3P ps us s)]
  ((repeat ((conv => whnf); first | refine brT ?_ | refine brF ?_)); conv => whnf)
  refine ⟨lines_len.symm, fun _ => ?_⟩
  rw [lines_len]
  ((repeat ((conv => whnf); first | refine brT ?_ | refine brF ?_)); conv => whnf)
  refine loop_ruleR (α := Nat) [.old 0, .old 1, .old 2] (fun k => [(14, .int .i64 (k : Int))])
    (fun k => [.box (famLV ps us), .box s.lv, .tree 103 1 ((gridP ps.length (doneP ps.length (l3P ps us s) k 0)).map lineOw)]) (fun k => ps.length - k) (fun k => k ≤ ps.length) 0 (Nat.zero_le _) ?_ ?_
  · refine ⟨?_, ⟨rfl, rfl, rfl, rfl, rfl, rfl, trivial⟩, rfl⟩
    ((repeat ((conv => whnf); refine ⟨rfl, rfl, ?_⟩)); trivial)
  intro k hk
  ((repeat ((conv => whnf); first | refine brT ?_ | refine brF ?_)); conv => whnf)
  (refine ⟨fun h1 => ?_, fun h1 => ?_⟩ <;> rw [h1])
  · have hlt : k < ps.length := by rw [ltI_t] at h1; omega
    have e1 := step_i hlt hm'
    ((repeat ((conv => whnf); first | refine brT ?_ | refine brF ?_)); conv => whnf)
    refine ⟨lines_len.symm, fun _ => ?_⟩
    rw [lines_len]
    ((repeat ((conv => whnf); first | refine brT ?_ | refine brF ?_)); conv => whnf)
    refine loop_ruleR (α := Nat) [.old 0, .old 1, .old 2] (fun i => [(19, .int .i64 (i : Int))])
      (fun i => [.box (famLV ps us), .box s.lv, .tree 103 1 ((gridP ps.length (doneP ps.length (l3P ps us s) k i)).map lineOw)]) (fun i => ps.length - i) (fun i => i ≤ ps.length) 0 (Nat.zero_le _) ?_ ?_
    · refine ⟨?_, ⟨rfl, rfl, rfl, rfl, rfl, rfl, trivial⟩, rfl⟩
      ((repeat ((conv => whnf); refine ⟨rfl, rfl, ?_⟩)); trivial)
    intro i hi
    generalize hKK : kk _ = KK
    ((repeat ((conv => whnf); first | refine brT ?_ | refine brF ?_)); conv => whnf)
    (refine ⟨fun h2 => ?_, fun h2 => ?_⟩ <;> rw [h2])
    · have hil : i < ps.length := by rw [ltI_t] at h2; omega
      have e2 := step_i hil hm'
      have ep := doneP_put (V := l3P ps us s) (k := k) hil
      ((repeat ((conv => whnf); first | refine brT ?_ | refine brF ?_)); conv => whnf)
      refine ⟨false, 10, by kernel_rfl, ?_⟩
      ((repeat ((conv => whnf); first | refine brT ?_ | refine brF ?_)); conv => whnf)
      refine ⟨lines_len.symm, rfl, k, rfl, by rw [lines_len]; exact hlt, ?_⟩
      ((repeat ((conv => whnf); first | refine brT ?_ | refine brF ?_)); conv => whnf)
      refine ⟨lines_len.symm, lineOw (lineP ps.length (doneP ps.length (l3P ps us s) k i) k), lineOw (lineP ps.length (doneP ps.length (l3P ps us s) k i) k), lines_get hlt, rfl, ?_⟩
      ((repeat ((conv => whnf); first | refine brT ?_ | refine brF ?_)); conv => whnf)
      refine ⟨_, l3Leads_spec ps us s k i hlt hil, ?_⟩
      ((repeat ((conv => whnf); first | refine brT ?_ | refine brF ?_)); conv => whnf)
      refine ⟨rfl, rfl, i, rfl, by rw [cells_len]; exact hil, ?_⟩
      ((repeat ((conv => whnf); first | refine brT ?_ | refine brF ?_)); conv => whnf)
      refine ⟨rfl, i, [], .bool (doneP ps.length (l3P ps us s) k i k i), rfl, by simp only [getP]; rw [cell_get hil], rfl, rfl, rfl, (lineP ps.length (doneP ps.length (l3P ps us s) k (i + 1)) k).map bLV, by rw [cell_get hil, ← ep]; exact cells_put, ?_⟩
      ((repeat ((conv => whnf); first | refine brT ?_ | refine brF ?_)); conv => whnf)
      have e4 : ((gridP ps.length (doneP ps.length (l3P ps us s) k i)).map lineOw).set k (lineOw (lineP ps.length (doneP ps.length (l3P ps us s) k (i + 1)) k)) = (gridP ps.length (doneP ps.length (l3P ps us s) k (i + 1))).map lineOw := by rw [← ep]; exact lines_put
      refine round_endR [.old 0, .old 1, .old 2] (i + 1) hil (by omega) ⟨?_, ⟨by rw [cells_len, cells_len], rfl, rfl, rfl, rfl, rfl, congrArg (Blk.tree 103 1) e4, trivial⟩, rfl⟩
      ((repeat ((conv => whnf); first | refine ⟨rfl, e2, ?_⟩ | refine ⟨rfl, rfl, ?_⟩)); trivial)
    · have hil : i = ps.length := by rw [ltI_f] at h2; omega
      subst hil
      have e4 : (gridP ps.length (doneP ps.length (l3P ps us s) k ps.length)).map lineOw = (gridP ps.length (doneP ps.length (l3P ps us s) (k + 1) 0)).map lineOw := by rw [doneP_row]
      subst hKK
      ((repeat ((conv => whnf); first | refine brT ?_ | refine brF ?_)); conv => whnf)
      refine round_endR [.old 0, .old 1, .old 2] (k + 1) hlt (by omega) ⟨?_, ⟨rfl, rfl, rfl, rfl, rfl, congrArg (Blk.tree 103 1) e4, trivial⟩, rfl⟩
      ((repeat ((conv => whnf); first | refine ⟨rfl, e1, ?_⟩ | refine ⟨rfl, rfl, ?_⟩)); trivial)
  · have h3 : k = ps.length := by rw [ltI_f] at h1; omega
    subst h3
    ((repeat ((conv => whnf); first | refine brT ?_ | refine brF ?_)); conv => whnf)
    exact ⟨[.hs 0 ps.length], rfl, rfl, .inr ⟨[.old 2], ⟨rfl, rfl, trivial⟩, ⟨rfl, rfl, trivial⟩, rfl⟩⟩

/-- The relation of a step; nothing if the family or the step is not valid. -/
def stepN (ps : List Per) (us : List Uni) (s : Pr) : Nat := match famOk ps us && stepB s.a s.b 0 with | true => ps.length | false => 0
theorem specStep_h (ps : List Per) (us : List Uni) (s : Pr) :
    HSpec env.P 13 [famLV ps us, s.lv] [] (relHS (stepN ps us s) 0 ((relRows (stepN ps us s) (l3P ps us s)).map rowOw).length) [.tree 58 1 ((relRows (stepN ps us s) (l3P ps us s)).map rowOw)] := by
  refine HSpec_of_code (E := env.x [61, 60] 0) env_ok.x (fn := Try.f13) Try.func13 rfl Try.call13 _ _ _ _ ?_
  have hno : (famOk ps us && stepB s.a s.b 0) = false → stepN ps us s = 0 := fun h => by unfold stepN; rw [h]
  ((repeat ((conv => whnf); first | refine brT ?_ | refine brF ?_)); conv => whnf)
  refine ⟨_, isFamily_spec ps us, ?_⟩
  ((repeat ((conv => whnf); first | refine brT ?_ | refine brF ?_)); conv => whnf)
  (refine ⟨fun h => ?_, fun h => ?_⟩ <;> rw [h])
  · rw [notB_t] at h
    rw [hno (by rw [h]; rfl)]
    ((repeat ((conv => whnf); first | refine brT ?_ | refine brF ?_)); conv => whnf)
    exact ⟨[relHS 0 0 0], rfl, rfl, .nl [.tmp 0 [1] true 58 1] [.old 3] ⟨⟨rfl, rfl, trivial⟩, ⟨rfl, rfl, trivial⟩, rfl⟩⟩
  rw [notB_f] at h
  ((repeat ((conv => whnf); first | refine brT ?_ | refine brF ?_)); conv => whnf)
  refine ⟨_, l3Step_spec s 0, ?_⟩
  ((repeat ((conv => whnf); first | refine brT ?_ | refine brF ?_)); conv => whnf)
  (refine ⟨fun h2 => ?_, fun h2 => ?_⟩ <;> rw [h2])
  · rw [notB_t] at h2
    rw [hno (by rw [h, h2]; rfl)]
    ((repeat ((conv => whnf); first | refine brT ?_ | refine brF ?_)); conv => whnf)
    exact ⟨[relHS 0 0 0], rfl, rfl, .nl [.tmp 0 [1] true 58 1] [.old 3] ⟨⟨rfl, rfl, trivial⟩, ⟨rfl, rfl, trivial⟩, rfl⟩⟩
  rw [notB_f] at h2
  rw [show stepN ps us s = ps.length by unfold stepN; rw [h, h2]; rfl]
  have hN := (famOk_parts h).1
  ((repeat ((conv => whnf); first | refine brT ?_ | refine brF ?_)); conv => whnf)
  refine ⟨[], _, _, _, _, l3Grid_h ps us s hN, rfl, rfl, rfl, trivial, ?_⟩
  ((repeat ((conv => whnf); first | refine brT ?_ | refine brF ?_)); conv => whnf)
  have hR := l2Of_P ps.length (doneP ps.length (l3P ps us s) ps.length 0) hN
  rw [show relRows ps.length (doneP ps.length (l3P ps us s) ps.length 0) = relRows ps.length (l3P ps us s) from relRows_ext (doneP_all ps.length (l3P ps us s))] at hR
  refine ⟨[], _, _, _, _, hR, rfl, ?_⟩
  ((repeat ((conv => whnf); first | refine brT ?_ | refine brF ?_)); conv => whnf)
  refine ⟨lines_len.symm, _, dms_lines _, ?_⟩
  ((repeat ((conv => whnf); first | refine brT ?_ | refine brF ?_)); conv => whnf)
  refine ⟨rfl, rfl, ⟨rfl, flatTs_rows _, trivial⟩, ?_⟩
  ((repeat ((conv => whnf); first | refine brT ?_ | refine brF ?_)); conv => whnf)
  refine ⟨[relHS ps.length 0 ((relRows ps.length (l3P ps us s)).map rowOw).length], rfl, rfl, .inr ⟨[.old 4], ⟨rfl, rfl, trivial⟩, ⟨rfl, rfl, trivial⟩, rfl⟩⟩
end Go.Proofs.Ytdppjbiphekgjaa

namespace Go.Proofs.Ytdppjbiphekgjaa
open Go.Lg
set_option maxHeartbeats 3200000
set_option maxRecDepth 10000
set_option linter.unusedVariables false
set_option linter.unusedSimpArgs false

/-! ### Steps in a family, as the program has them -/
def comB (y : Per) (n : Int) : Bool := eqI y.father n || eqI y.mother n
def comN (x y : Per) : Nat := ((known x).filter (comB y)).length
def comTo (x y : Per) (k : Nat) : Nat := (((known x).take k).filter (comB y)).length
theorem comTo_succ {x y : Per} {k : Nat} (h : k < (known x).length) : comTo x y (k + 1) = comTo x y k + (if comB y (known x)[k] = true then 1 else 0) := by
  unfold comTo
  rw [List.take_succ_eq_append_getElem h, List.filter_append, List.length_append]
  congr 1
  by_cases e : comB y (known x)[k] = true <;> simp [List.filter, e]
theorem comTo_le (x y : Per) (k : Nat) : comTo x y k ≤ 2 := by
  unfold comTo
  refine Nat.le_trans (List.length_filter_le _ _) ?_
  have := known_len x
  simp; omega
theorem parentsInCommon_spec (ps : List Per) (us : List Uni) (a b : Nat) (ha : a < ps.length) (hb : b < ps.length) :
    FSpec env.P 103 [famLV ps us, .int .i64 (a : Int), .int .i64 (b : Int)] (.int .i64 ((comN ps[a] ps[b] : Nat) : Int)) := by
  refine FSpec_of_code env_ok (fn := Try.f103) Try.func103 rfl Try.call103 _ _ ?_
  have hga : (List.map Per.lv ps)[a]? = some ps[a].lv := by simp [ha]
  have hgb : (List.map Per.lv ps)[b]? = some ps[b].lv := by simp [hb]
  generalize ps[a] = x at hga ⊢
  generalize ps[b] = y at hgb ⊢
  ((repeat ((conv => whnf); first | refine brT ?_ | refine brF ?_)); conv => whnf)
  refine ⟨a, x.lv, rfl, hga, rfl, ?_⟩
  ((repeat ((conv => whnf); first | refine brT ?_ | refine brF ?_)); conv => whnf)
  refine ⟨_, knownParents_spec x, ?_⟩
  ((repeat ((conv => whnf); first | refine brT ?_ | refine brF ?_)); conv => whnf)
  intro _
  rw [show (List.map intLV (known x)).length = (known x).length by simp]
  ((repeat ((conv => whnf); first | refine brT ?_ | refine brF ?_)); conv => whnf)
  refine loop_rule (α := Nat) (fun k => [(17, .int .i64 (k : Int)), (7, .int .i64 ((comTo x y k : Nat) : Int))]) (fun k => [.box (famLV ps us)]) (fun k => (known x).length - k) (fun k => k ≤ (known x).length) 0 (Nat.zero_le _) ?_ ?_
  · refine ⟨?_, ⟨rfl, trivial⟩, rfl, rfl⟩
    ((repeat ((conv => whnf); refine ⟨rfl, ?_⟩)); trivial)
  intro k hk
  ((repeat ((conv => whnf); first | refine brT ?_ | refine brF ?_)); conv => whnf)
  (refine ⟨fun g => ?_, fun g => ?_⟩ <;> rw [g])
  · have hlt : k < (known x).length := by rw [ltI_t] at g; omega
    have h2 := known_len x
    have e1 := step_i (n := 40) (k := k) (by omega) (by decide)
    have hc := comTo_le x y k
    have hs := comTo_succ (y := y) hlt
    ((repeat ((conv => whnf); first | refine brT ?_ | refine brF ?_)); conv => whnf)
    refine ⟨k, intLV (known x)[k], rfl, by simp [hlt], rfl, ?_⟩
    ((repeat ((conv => whnf); first | refine brT ?_ | refine brF ?_)); conv => whnf)
    refine ⟨b, y.lv, rfl, hgb, rfl, ?_⟩
    ((repeat ((conv => whnf); first | refine brT ?_ | refine brF ?_)); conv => whnf)
    (refine ⟨fun q1 => ?_, fun q1 => ?_⟩ <;> rw [q1])
    · have e2 : LV.int .i64 (IntKind.i64.wrap ((comTo x y k : Nat) + 1)) = LV.int .i64 ((comTo x y (k + 1) : Nat) : Int) := by
        rw [hs, if_pos (by simp [comB, q1]), wrap64 (by omega) (by omega)]; congr 1
      ((repeat ((conv => whnf); first | refine brT ?_ | refine brF ?_)); conv => whnf)
      refine round_end (k + 1) hlt (by omega) ⟨?_, ⟨rfl, trivial⟩, rfl, rfl⟩
      repeat ((conv => whnf); first | refine ⟨e1, ?_⟩ | refine ⟨e2, ?_⟩ | refine ⟨rfl, ?_⟩)
      trivial
    · ((repeat ((conv => whnf); first | refine brT ?_ | refine brF ?_)); conv => whnf)
      refine ⟨b, y.lv, rfl, hgb, rfl, ?_⟩
      ((repeat ((conv => whnf); first | refine brT ?_ | refine brF ?_)); conv => whnf)
      (refine ⟨fun q2 => ?_, fun q2 => ?_⟩ <;> rw [q2])
      · have e2 : LV.int .i64 (IntKind.i64.wrap ((comTo x y k : Nat) + 1)) = LV.int .i64 ((comTo x y (k + 1) : Nat) : Int) := by
          rw [hs, if_pos (by simp [comB, q2]), wrap64 (by omega) (by omega)]; congr 1
        ((repeat ((conv => whnf); first | refine brT ?_ | refine brF ?_)); conv => whnf)
        refine round_end (k + 1) hlt (by omega) ⟨?_, ⟨rfl, trivial⟩, rfl, rfl⟩
        repeat ((conv => whnf); first | refine ⟨e1, ?_⟩ | refine ⟨e2, ?_⟩ | refine ⟨rfl, ?_⟩)
        trivial
      · have e2 : LV.int .i64 ((comTo x y k : Nat) : Int) = LV.int .i64 ((comTo x y (k + 1) : Nat) : Int) := by
          rw [hs, if_neg (by simp [comB, q1, q2])]; rfl
        ((repeat ((conv => whnf); first | refine brT ?_ | refine brF ?_)); conv => whnf)
        refine round_end (k + 1) hlt (by omega) ⟨?_, ⟨rfl, trivial⟩, rfl, rfl⟩
        repeat ((conv => whnf); first | refine ⟨e1, ?_⟩ | refine ⟨e2, ?_⟩ | refine ⟨rfl, ?_⟩)
        trivial
  · have h3 : k = (known x).length := by rw [ltI_f] at g; omega
    subst h3
    ((repeat ((conv => whnf); first | refine brT ?_ | refine brF ?_)); conv => whnf)
    exact ⟨rfl, by unfold comN comTo; rw [List.take_length], List.nodup_nil⟩
def sibB (x y : Per) (a b : Int) : Bool := notB (eqI a b) && eqI ((comN x y : Nat) : Int) 2
theorem areFullSiblings_spec (ps : List Per) (us : List Uni) (a b : Nat) (ha : a < ps.length) (hb : b < ps.length) :
    FSpec env.P 101 [famLV ps us, .int .i64 (a : Int), .int .i64 (b : Int)] (.bool (sibB ps[a] ps[b] a b)) := by
  refine FSpec_of_code env_ok (fn := Try.f101) Try.func101 rfl Try.call101 _ _ ?_
  ((repeat' (((repeat ((conv => whnf); first | refine brT ?_ | refine brF ?_)); conv => whnf); first | (refine And.intro ?_ ?_ <;> (intro h; rw [h]; revert h; intro _)) | (refine Exists.intro true (And.intro (a := drawB _ _ = true) (by kernel_rfl) ?_)) | (refine Exists.intro _ (And.intro (parentsInCommon_spec ps us a b ha hb) ?_)))); all_goals ((repeat ((conv => whnf); first | refine brT ?_ | refine brF ?_)); conv => whnf))
  all_goals (refine fin ?_; simp_all [sibB])
def ageX (ps : List Per) (g a b : Int) : Bool := match eqI g 1 with | true => elder ps b a | false => match eqI g 2 with | true => elder ps a b | false => true
theorem isOfAge_spec (ps : List Per) (us : List Uni) (g : Int) (a b : Nat) (ha : a < ps.length) (hb : b < ps.length) :
    FSpec env.P 166 [famLV ps us, .int .i64 g, .int .i64 (a : Int), .int .i64 (b : Int)] (.bool (ageX ps g a b)) := by
  refine FSpec_of_code env_ok (fn := Try.f166) Try.func166 rfl Try.call166 _ _ ?_
  ((repeat' (((repeat ((conv => whnf); first | refine brT ?_ | refine brF ?_)); conv => whnf); first | (refine And.intro ?_ ?_ <;> (intro h; rw [h]; revert h; intro _)) | (refine Exists.intro true (And.intro (a := drawB _ _ = true) (by kernel_rfl) ?_)) | (refine Exists.intro _ (And.intro (compareAge_spec ps us (b : Int) (a : Int) (by omega) (by simpa using hb) (by omega) (by simpa using ha)) ?_)) | (refine Exists.intro _ (And.intro (compareAge_spec ps us (a : Int) (b : Int) (by omega) (by simpa using ha) (by omega) (by simpa using hb)) ?_)))); all_goals ((repeat ((conv => whnf); first | refine brT ?_ | refine brF ?_)); conv => whnf))
  all_goals (refine fin ?_; simp only [age_elder, ageX, *])
def chB (x : Per) (b : Int) : Bool := eqI x.father b || eqI x.mother b
theorem link1_spec (ps : List Per) (us : List Uni) (a b : Nat) (ha : a < ps.length) :
    FSpec env.P 164 [.int .i64 (a : Int), .int .i64 (b : Int), .ref (famLV ps us)] (.bool (chB ps[a] b)) := by
  refine FSpec_of_code env_ok (fn := Try.f164) Try.func164 rfl Try.call164 _ _ ?_
  have hga : (List.map Per.lv ps)[a]? = some ps[a].lv := by simp [ha]
  generalize ps[a] = x at hga ⊢
  ((repeat ((conv => whnf); first | refine brT ?_ | refine brF ?_)); conv => whnf)
  refine ⟨a, x.lv, rfl, hga, rfl, ?_⟩
  ((repeat ((conv => whnf); first | refine brT ?_ | refine brF ?_)); conv => whnf)
  (refine ⟨fun h => ?_, fun h => ?_⟩ <;> rw [h])
  · ((repeat ((conv => whnf); first | refine brT ?_ | refine brF ?_)); conv => whnf)
    refine fin ?_
    simp [chB, h]
  · ((repeat ((conv => whnf); first | refine brT ?_ | refine brF ?_)); conv => whnf)
    refine ⟨a, x.lv, rfl, hga, rfl, ?_⟩
    ((repeat ((conv => whnf); first | refine brT ?_ | refine brF ?_)); conv => whnf)
    refine fin ?_
    simp [chB, h]
theorem link2_spec (ps : List Per) (us : List Uni) (s : Pr) (a b : Nat) (ha : a < ps.length) (hb : b < ps.length) :
    FSpec env.P 165 [.int .i64 (a : Int), .int .i64 (b : Int), .ref (famLV ps us), .ref s.lv] (.bool (sibB ps[a] ps[b] a b && ageX ps s.b a b)) := by
  refine FSpec_of_code env_ok (fn := Try.f165) Try.func165 rfl Try.call165 _ _ ?_
  ((repeat' (((repeat ((conv => whnf); first | refine brT ?_ | refine brF ?_)); conv => whnf); first | (refine And.intro ?_ ?_ <;> (intro h; rw [h]; revert h; intro _)) | (refine Exists.intro true (And.intro (a := drawB _ _ = true) (by kernel_rfl) ?_)) | (refine Exists.intro _ (And.intro (areFullSiblings_spec ps us a b ha hb) ?_)) | (refine Exists.intro _ (And.intro (isOfAge_spec ps us s.b a b ha hb) ?_)))); all_goals ((repeat ((conv => whnf); first | refine brT ?_ | refine brF ?_)); conv => whnf))
  all_goals (refine fin ?_; simp_all)
theorem link3_spec (ps : List Per) (us : List Uni) (a b : Nat) (hb : b < ps.length) :
    FSpec env.P 167 [.int .i64 (a : Int), .int .i64 (b : Int), .ref (.clos 164 [.ref (famLV ps us)])] (.bool (chB ps[b] a)) := by
  refine FSpec_of_code env_ok (fn := Try.f167) Try.func167 rfl Try.call167 _ _ ?_
  ((repeat ((conv => whnf); first | refine brT ?_ | refine brF ?_)); conv => whnf)
  refine ⟨_, link1_spec ps us b a hb, ?_⟩
  ((repeat ((conv => whnf); first | refine brT ?_ | refine brF ?_)); conv => whnf)
  exact fin rfl
theorem link4_spec (ps : List Per) (us : List Uni) (a b : Int) : FSpec env.P 168 [.int .i64 a, .int .i64 b, .ref (famLV ps us)] (.bool (us.any (unitedOf b a))) := by
  refine FSpec_of_code env_ok (fn := Try.f168) Try.func168 rfl Try.call168 _ _ ?_
  ((repeat ((conv => whnf); first | refine brT ?_ | refine brF ?_)); conv => whnf)
  refine ⟨_, isUnited_spec us b a, ?_⟩
  ((repeat ((conv => whnf); first | refine brT ?_ | refine brF ?_)); conv => whnf)
  exact fin rfl
theorem link5_spec (ps : List Per) (us : List Uni) (a b : Int) : FSpec env.P 169 [.int .i64 a, .int .i64 b, .ref (famLV ps us)] (.bool (us.any (unitedOf a b))) := by
  refine FSpec_of_code env_ok (fn := Try.f169) Try.func169 rfl Try.call169 _ _ ?_
  ((repeat ((conv => whnf); first | refine brT ?_ | refine brF ?_)); conv => whnf)
  refine ⟨_, isUnited_spec us a b, ?_⟩
  ((repeat ((conv => whnf); first | refine brT ?_ | refine brF ?_)); conv => whnf)
  exact fin rfl
end Go.Proofs.Ytdppjbiphekgjaa

namespace Go.Proofs.Ytdppjbiphekgjaa
open Go.Lg
set_option maxHeartbeats 3200000
set_option maxRecDepth 10000
set_option linter.unusedVariables false
set_option linter.unusedSimpArgs false

theorem linkOf_a (ps : List Per) (us : List Uni) (s : Pr) (hk : (eqI s.a 1 || eqI s.a 2) = true) : HSpec env.P 134 [famLV ps us, s.lv] [] (.clos 164 [.hp 0 0 []]) [.box (famLV ps us), .box s.lv, .box (.clos 164 [.hp 0 0 []])] := by
  refine HSpec_of_code (E := env.x [] 0) env_ok.x (fn := Try.f134) Try.func134 rfl Try.call134 _ _ _ _ ?_
  ((repeat ((conv => whnf); first | refine brT ?_ | refine brF ?_)); conv => whnf)
  (refine ⟨fun h1 => ?_, fun h1 => ?_⟩ <;> rw [h1])
  · ((repeat ((conv => whnf); first | refine brT ?_ | refine brF ?_)); conv => whnf)
    exact ⟨[.clos 164 [.hp 0 0 []]], rfl, rfl, .inl ⟨⟨rfl, trivial⟩, ⟨rfl, rfl, rfl, trivial⟩, rfl, rfl⟩⟩
  have h2 : eqI s.a 2 = true := by simpa [h1] using hk
  ((repeat ((conv => whnf); first | refine brT ?_ | refine brF ?_)); conv => whnf)
  rw [h2]
  ((repeat ((conv => whnf); first | refine brT ?_ | refine brF ?_)); conv => whnf)
  exact ⟨[.clos 164 [.hp 0 0 []]], rfl, rfl, .inl ⟨⟨rfl, trivial⟩, ⟨rfl, rfl, rfl, trivial⟩, rfl, rfl⟩⟩
theorem linkOf_b (ps : List Per) (us : List Uni) (s : Pr) (h1 : eqI s.a 1 = false) (h2 : eqI s.a 2 = false) (hk : (eqI s.a 3 || eqI s.a 4) = true) : HSpec env.P 134 [famLV ps us, s.lv] [] (.clos 165 [.hp 0 0 [], .hp 1 0 []]) [.box (famLV ps us), .box s.lv, .box (.clos 164 [.hp 0 0 []])] := by
  refine HSpec_of_code (E := env.x [] 0) env_ok.x (fn := Try.f134) Try.func134 rfl Try.call134 _ _ _ _ ?_
  ((repeat ((conv => whnf); first | refine brT ?_ | refine brF ?_)); conv => whnf)
  rw [h1]
  ((repeat ((conv => whnf); first | refine brT ?_ | refine brF ?_)); conv => whnf)
  rw [h2]
  ((repeat ((conv => whnf); first | refine brT ?_ | refine brF ?_)); conv => whnf)
  (refine ⟨fun h3 => ?_, fun h3 => ?_⟩ <;> rw [h3])
  · ((repeat ((conv => whnf); first | refine brT ?_ | refine brF ?_)); conv => whnf)
    exact ⟨[.clos 165 [.hp 0 0 [], .hp 1 0 []]], rfl, rfl, .inl ⟨⟨rfl, trivial⟩, ⟨rfl, rfl, rfl, trivial⟩, rfl, rfl⟩⟩
  have h4 : eqI s.a 4 = true := by simpa [h3] using hk
  ((repeat ((conv => whnf); first | refine brT ?_ | refine brF ?_)); conv => whnf)
  rw [h4]
  ((repeat ((conv => whnf); first | refine brT ?_ | refine brF ?_)); conv => whnf)
  exact ⟨[.clos 165 [.hp 0 0 [], .hp 1 0 []]], rfl, rfl, .inl ⟨⟨rfl, trivial⟩, ⟨rfl, rfl, rfl, trivial⟩, rfl, rfl⟩⟩
theorem linkOf_c (ps : List Per) (us : List Uni) (s : Pr) (h1 : eqI s.a 1 = false) (h2 : eqI s.a 2 = false) (h3 : eqI s.a 3 = false) (h4 : eqI s.a 4 = false) (hk : (eqI s.a 5 || eqI s.a 6) = true) : HSpec env.P 134 [famLV ps us, s.lv] [] (.clos 167 [.hp 2 0 []]) [.box (famLV ps us), .box s.lv, .box (.clos 164 [.hp 0 0 []])] := by
  refine HSpec_of_code (E := env.x [] 0) env_ok.x (fn := Try.f134) Try.func134 rfl Try.call134 _ _ _ _ ?_
  ((repeat ((conv => whnf); first | refine brT ?_ | refine brF ?_)); conv => whnf)
  rw [h1]
  ((repeat ((conv => whnf); first | refine brT ?_ | refine brF ?_)); conv => whnf)
  rw [h2]
  ((repeat ((conv => whnf); first | refine brT ?_ | refine brF ?_)); conv => whnf)
  rw [h3]
  ((repeat ((conv => whnf); first | refine brT ?_ | refine brF ?_)); conv => whnf)
  rw [h4]
  ((repeat ((conv => whnf); first | refine brT ?_ | refine brF ?_)); conv => whnf)
  (refine ⟨fun h5 => ?_, fun h5 => ?_⟩ <;> rw [h5])
  · ((repeat ((conv => whnf); first | refine brT ?_ | refine brF ?_)); conv => whnf)
    exact ⟨[.clos 167 [.hp 2 0 []]], rfl, rfl, .inl ⟨⟨rfl, trivial⟩, ⟨rfl, rfl, rfl, trivial⟩, rfl, rfl⟩⟩
  have h6 : eqI s.a 6 = true := by simpa [h5] using hk
  ((repeat ((conv => whnf); first | refine brT ?_ | refine brF ?_)); conv => whnf)
  rw [h6]
  ((repeat ((conv => whnf); first | refine brT ?_ | refine brF ?_)); conv => whnf)
  exact ⟨[.clos 167 [.hp 2 0 []]], rfl, rfl, .inl ⟨⟨rfl, trivial⟩, ⟨rfl, rfl, rfl, trivial⟩, rfl, rfl⟩⟩
theorem linkOf_d (ps : List Per) (us : List Uni) (s : Pr) (h1 : eqI s.a 1 = false) (h2 : eqI s.a 2 = false) (h3 : eqI s.a 3 = false) (h4 : eqI s.a 4 = false) (h5 : eqI s.a 5 = false) (h6 : eqI s.a 6 = false) (h7 : eqI s.a 7 = true) : HSpec env.P 134 [famLV ps us, s.lv] [] (.clos 168 [.hp 0 0 []]) [.box (famLV ps us), .box s.lv, .box (.clos 164 [.hp 0 0 []])] := by
  refine HSpec_of_code (E := env.x [] 0) env_ok.x (fn := Try.f134) Try.func134 rfl Try.call134 _ _ _ _ ?_
  ((repeat ((conv => whnf); first | refine brT ?_ | refine brF ?_)); conv => whnf)
  rw [h1]
  ((repeat ((conv => whnf); first | refine brT ?_ | refine brF ?_)); conv => whnf)
  rw [h2]
  ((repeat ((conv => whnf); first | refine brT ?_ | refine brF ?_)); conv => whnf)
  rw [h3]
  ((repeat ((conv => whnf); first | refine brT ?_ | refine brF ?_)); conv => whnf)
  rw [h4]
  ((repeat ((conv => whnf); first | refine brT ?_ | refine brF ?_)); conv => whnf)
  rw [h5]
  ((repeat ((conv => whnf); first | refine brT ?_ | refine brF ?_)); conv => whnf)
  rw [h6]
  ((repeat ((conv => whnf); first | refine brT ?_ | refine brF ?_)); conv => whnf)
  rw [h7]
  ((repeat ((conv => whnf); first | refine brT ?_ | refine brF ?_)); conv => whnf)
  exact ⟨[.clos 168 [.hp 0 0 []]], rfl, rfl, .inl ⟨⟨rfl, trivial⟩, ⟨rfl, rfl, rfl, trivial⟩, rfl, rfl⟩⟩
theorem linkOf_e (ps : List Per) (us : List Uni) (s : Pr) (h1 : eqI s.a 1 = false) (h2 : eqI s.a 2 = false) (h3 : eqI s.a 3 = false) (h4 : eqI s.a 4 = false) (h5 : eqI s.a 5 = false) (h6 : eqI s.a 6 = false) (h7 : eqI s.a 7 = false) : HSpec env.P 134 [famLV ps us, s.lv] [] (.clos 169 [.hp 0 0 []]) [.box (famLV ps us), .box s.lv, .box (.clos 164 [.hp 0 0 []])] := by
  refine HSpec_of_code (E := env.x [] 0) env_ok.x (fn := Try.f134) Try.func134 rfl Try.call134 _ _ _ _ ?_
  ((repeat ((conv => whnf); first | refine brT ?_ | refine brF ?_)); conv => whnf)
  rw [h1]
  ((repeat ((conv => whnf); first | refine brT ?_ | refine brF ?_)); conv => whnf)
  rw [h2]
  ((repeat ((conv => whnf); first | refine brT ?_ | refine brF ?_)); conv => whnf)
  rw [h3]
  ((repeat ((conv => whnf); first | refine brT ?_ | refine brF ?_)); conv => whnf)
  rw [h4]
  ((repeat ((conv => whnf); first | refine brT ?_ | refine brF ?_)); conv => whnf)
  rw [h5]
  ((repeat ((conv => whnf); first | refine brT ?_ | refine brF ?_)); conv => whnf)
  rw [h6]
  ((repeat ((conv => whnf); first | refine brT ?_ | refine brF ?_)); conv => whnf)
  rw [h7]
  ((repeat ((conv => whnf); first | refine brT ?_ | refine brF ?_)); conv => whnf)
  exact ⟨[.clos 169 [.hp 0 0 []]], rfl, rfl, .inl ⟨⟨rfl, trivial⟩, ⟨rfl, rfl, rfl, trivial⟩, rfl, rfl⟩⟩
end Go.Proofs.Ytdppjbiphekgjaa

namespace Go.Proofs.Ytdppjbiphekgjaa
open Go.Lg
set_option maxHeartbeats 6400000
set_option maxRecDepth 10000
set_option linter.unusedVariables false
set_option linter.unusedSimpArgs false

theorem reachOf_a (ps : List Per) (us : List Uni) (s : Pr) (hN : ps.length ≤ 40) (hk : (eqI s.a 1 || eqI s.a 2) = true) (V : Nat → Nat → Bool) (hV : ∀ (a b : Nat) (ha : a < ps.length) (hb : b < ps.length), V a b = (eqI ps[b].sex (sxOf s.a) && chB ps[a] b)) :
    HSpec env.P 67 [famLV ps us, s.lv] [] (.hs 0 ps.length) [.arr 109 1 ((setsP ps.length (doneP ps.length V ps.length 0)).map uLV)] := by
  refine HSpec_of_code (E := env.x [134, 136] 0) env_ok.x (fn := Try.f67) Try.func67 rfl Try.call67 _ _ _ _ ?_
  ((repeat ((conv => whnf); first | refine brT ?_ | refine brF ?_)); conv => whnf)
  refine ⟨[], _, _, _, _, linkOf_a ps us s hk, rfl, rfl, rfl, trivial, ?_⟩
  ((repeat ((conv => whnf); first | refine brT ?_ | refine brF ?_)); conv => whnf)
  intro hm
  have hm' : ps.length ≤ Go.maxLen := by simpa using hm
  rw [show (List.map Per.lv ps).length = ps.length by simp]
  ((repeat ((conv => whnf); first | refine brT ?_ | refine brF ?_)); conv => whnf)
  refine ⟨ps.length, rfl, rfl, by show 8 * ps.length ≤ _; omega, by unfold Go.maxLen; omega, rfl, by decide, ?_⟩
  have ez : List.replicate ps.length (LV.int .u64 0) = (setsP ps.length (doneP ps.length V 0 0)).map uLV := by rw [doneP_zero, ← setsP_zero]; simp [uLV]
  ((repeat ((conv => whnf); first | refine brT ?_ | refine brF ?_)); conv => whnf)
  rw [ez]
  intro _
  rw [show (List.map Per.lv ps).length = ps.length by simp]
  ((repeat ((conv => whnf); first | refine brT ?_ | refine brF ?_)); conv => whnf)
  refine loop_rule (α := Nat) (fun k => [(20, .int .i64 (k : Int))])
    (fun k => [.box (famLV ps us), .box s.lv, .box (famLV ps us), .box s.lv, .box (.clos 164 [.hp 2 0 []]), .arr 109 1 ((setsP ps.length (doneP ps.length V k 0)).map uLV)]) (fun k => ps.length - k) (fun k => k ≤ ps.length) 0 (Nat.zero_le _) ?_ ?_
  · refine ⟨?_, ⟨rfl, rfl, rfl, rfl, rfl, rfl, trivial⟩, rfl, rfl⟩
    ((repeat ((conv => whnf); refine ⟨rfl, ?_⟩)); trivial)
  intro k hk
  ((repeat ((conv => whnf); first | refine brT ?_ | refine brF ?_)); conv => whnf)
  (refine ⟨fun g1 => ?_, fun g1 => ?_⟩ <;> rw [g1])
  · have hlt : k < ps.length := by rw [ltI_t] at g1; omega
    have e1 := step_i hlt hm'
    ((repeat ((conv => whnf); first | refine brT ?_ | refine brF ?_)); conv => whnf)
    intro _
    rw [show (List.map Per.lv ps).length = ps.length by simp]
    ((repeat ((conv => whnf); first | refine brT ?_ | refine brF ?_)); conv => whnf)
    refine loop_rule (α := Nat) (fun i => [(26, .int .i64 (i : Int))])
      (fun i => [.box (famLV ps us), .box s.lv, .box (famLV ps us), .box s.lv, .box (.clos 164 [.hp 2 0 []]), .arr 109 1 ((setsP ps.length (doneP ps.length V k i)).map uLV)]) (fun i => ps.length - i) (fun i => i ≤ ps.length) 0 (Nat.zero_le _) ?_ ?_
    · refine ⟨?_, ⟨rfl, rfl, rfl, rfl, rfl, rfl, trivial⟩, rfl, rfl⟩
      ((repeat ((conv => whnf); refine ⟨rfl, ?_⟩)); trivial)
    intro i hi
    generalize hKK : kk _ = KK
    ((repeat ((conv => whnf); first | refine brT ?_ | refine brF ?_)); conv => whnf)
    (refine ⟨fun g2 => ?_, fun g2 => ?_⟩ <;> rw [g2])
    · have hil : i < ps.length := by rw [ltI_t] at g2; omega
      have e2 := step_i hil hm'
      have hv := hV k i hlt hil
      ((repeat ((conv => whnf); first | refine brT ?_ | refine brF ?_)); conv => whnf)
      refine ⟨i, ps[i].lv, rfl, by simp [hil], rfl, ?_⟩
      ((repeat ((conv => whnf); first | refine brT ?_ | refine brF ?_)); conv => whnf)
      refine ⟨true, by kernel_rfl, ?_⟩
      ((repeat ((conv => whnf); first | refine brT ?_ | refine brF ?_)); conv => whnf)
      refine ⟨_, sexOfStep_spec s, ?_⟩
      ((repeat ((conv => whnf); first | refine brT ?_ | refine brF ?_)); conv => whnf)
      (refine ⟨fun q => ?_, fun q => ?_⟩ <;> rw [q])
      · ((repeat ((conv => whnf); first | refine brT ?_ | refine brF ?_)); conv => whnf)
        refine ⟨_, link1_spec ps us k i hlt, ?_⟩
        ((repeat ((conv => whnf); first | refine brT ?_ | refine brF ?_)); conv => whnf)
        (refine ⟨fun q2 => ?_, fun q2 => ?_⟩ <;> rw [q2])
        · have hvt : V k i = true := by rw [hv, q, q2]; rfl
          have ep := doneP_put (V := V) (k := k) hil
          rw [hvt] at ep
          ((repeat ((conv => whnf); first | refine brT ?_ | refine brF ?_)); conv => whnf)
          refine ⟨by simp [setsP_len], rfl, k, rfl, by simpa [setsP_len] using hlt, ?_⟩
          ((repeat ((conv => whnf); first | refine brT ?_ | refine brF ?_)); conv => whnf)
          refine ⟨[5], _, _, _, _, add_elem ps.length (doneP ps.length V k i) k i hlt hil hN ps.length (by simp [setsP_len]), rfl, ?_⟩
          ((repeat ((conv => whnf); first | refine brT ?_ | refine brF ?_)); conv => whnf)
          refine ⟨rfl, rfl, trivial, ?_⟩
          ((repeat ((conv => whnf); first | refine brT ?_ | refine brF ?_)); conv => whnf)
          refine round_end (i + 1) hil (by omega) ⟨?_, ⟨rfl, rfl, rfl, rfl, rfl, congrArg (fun P => Blk.arr 109 1 ((setsP ps.length P).map uLV)) ep, trivial⟩, rfl, rfl⟩
          ((repeat ((conv => whnf); first | refine ⟨e2, ?_⟩ | refine ⟨rfl, ?_⟩)); trivial)
        · have hvf : V k i = false := by rw [hv, q, q2]; rfl
          ((repeat ((conv => whnf); first | refine brT ?_ | refine brF ?_)); conv => whnf)
          refine round_end (i + 1) hil (by omega) ⟨?_, ⟨rfl, rfl, rfl, rfl, rfl, congrArg (fun P => Blk.arr 109 1 ((setsP ps.length P).map uLV)) (doneP_skip hil hvf), trivial⟩, rfl, rfl⟩
          ((repeat ((conv => whnf); first | refine ⟨e2, ?_⟩ | refine ⟨rfl, ?_⟩)); trivial)
      · have hvf : V k i = false := by rw [hv, q]; rfl
        ((repeat ((conv => whnf); first | refine brT ?_ | refine brF ?_)); conv => whnf)
        refine round_end (i + 1) hil (by omega) ⟨?_, ⟨rfl, rfl, rfl, rfl, rfl, congrArg (fun P => Blk.arr 109 1 ((setsP ps.length P).map uLV)) (doneP_skip hil hvf), trivial⟩, rfl, rfl⟩
        ((repeat ((conv => whnf); first | refine ⟨e2, ?_⟩ | refine ⟨rfl, ?_⟩)); trivial)
    · have hil : i = ps.length := by rw [ltI_f] at g2; omega
      subst hil
      subst hKK
      ((repeat ((conv => whnf); first | refine brT ?_ | refine brF ?_)); conv => whnf)
      refine round_end (k + 1) hlt (by omega) ⟨?_, ⟨rfl, rfl, rfl, rfl, rfl, congrArg (fun P => Blk.arr 109 1 ((setsP ps.length P).map uLV)) (doneP_row ps.length V k), trivial⟩, rfl, rfl⟩
      ((repeat ((conv => whnf); first | refine ⟨e1, ?_⟩ | refine ⟨rfl, ?_⟩)); trivial)
  · have h3 : k = ps.length := by rw [ltI_f] at g1; omega
    subst h3
    ((repeat ((conv => whnf); first | refine brT ?_ | refine brF ?_)); conv => whnf)
    exact ⟨[.hs 0 ps.length], rfl, rfl, .inr ⟨[.old 5], ⟨rfl, rfl, trivial⟩, ⟨rfl, rfl, trivial⟩, rfl⟩⟩
end Go.Proofs.Ytdppjbiphekgjaa

namespace Go.Proofs.Ytdppjbiphekgjaa
open Go.Lg
set_option maxHeartbeats 6400000
set_option maxRecDepth 10000
set_option linter.unusedVariables false
set_option linter.unusedSimpArgs false

theorem reachOf_b (ps : List Per) (us : List Uni) (s : Pr) (hN : ps.length ≤ 40) (h1 : eqI s.a 1 = false) (h2 : eqI s.a 2 = false) (hk : (eqI s.a 3 || eqI s.a 4) = true) (V : Nat → Nat → Bool) (hV : ∀ (a b : Nat) (ha : a < ps.length) (hb : b < ps.length), V a b = (eqI ps[b].sex (sxOf s.a) && (sibB ps[a] ps[b] a b && ageX ps s.b a b))) :
    HSpec env.P 67 [famLV ps us, s.lv] [] (.hs 0 ps.length) [.arr 109 1 ((setsP ps.length (doneP ps.length V ps.length 0)).map uLV)] := by
  refine HSpec_of_code (E := env.x [134, 136] 0) env_ok.x (fn := Try.f67) Try.func67 rfl Try.call67 _ _ _ _ ?_
  ((repeat ((conv => whnf); first | refine brT ?_ | refine brF ?_)); conv => whnf)
  refine ⟨[], _, _, _, _, linkOf_b ps us s h1 h2 hk, rfl, rfl, rfl, trivial, ?_⟩
  ((repeat ((conv => whnf); first | refine brT ?_ | refine brF ?_)); conv => whnf)
  intro hm
  have hm' : ps.length ≤ Go.maxLen := by simpa using hm
  rw [show (List.map Per.lv ps).length = ps.length by simp]
  ((repeat ((conv => whnf); first | refine brT ?_ | refine brF ?_)); conv => whnf)
  refine ⟨ps.length, rfl, rfl, by show 8 * ps.length ≤ _; omega, by unfold Go.maxLen; omega, rfl, by decide, ?_⟩
  have ez : List.replicate ps.length (LV.int .u64 0) = (setsP ps.length (doneP ps.length V 0 0)).map uLV := by rw [doneP_zero, ← setsP_zero]; simp [uLV]
  ((repeat ((conv => whnf); first | refine brT ?_ | refine brF ?_)); conv => whnf)
  rw [ez]
  intro _
  rw [show (List.map Per.lv ps).length = ps.length by simp]
  ((repeat ((conv => whnf); first | refine brT ?_ | refine brF ?_)); conv => whnf)
  refine loop_rule (α := Nat) (fun k => [(20, .int .i64 (k : Int))])
    (fun k => [.box (famLV ps us), .box s.lv, .box (famLV ps us), .box s.lv, .box (.clos 164 [.hp 2 0 []]), .arr 109 1 ((setsP ps.length (doneP ps.length V k 0)).map uLV)]) (fun k => ps.length - k) (fun k => k ≤ ps.length) 0 (Nat.zero_le _) ?_ ?_
  · refine ⟨?_, ⟨rfl, rfl, rfl, rfl, rfl, rfl, trivial⟩, rfl, rfl⟩
    ((repeat ((conv => whnf); refine ⟨rfl, ?_⟩)); trivial)
  intro k hk
  ((repeat ((conv => whnf); first | refine brT ?_ | refine brF ?_)); conv => whnf)
  (refine ⟨fun g1 => ?_, fun g1 => ?_⟩ <;> rw [g1])
  · have hlt : k < ps.length := by rw [ltI_t] at g1; omega
    have e1 := step_i hlt hm'
    ((repeat ((conv => whnf); first | refine brT ?_ | refine brF ?_)); conv => whnf)
    intro _
    rw [show (List.map Per.lv ps).length = ps.length by simp]
    ((repeat ((conv => whnf); first | refine brT ?_ | refine brF ?_)); conv => whnf)
    refine loop_rule (α := Nat) (fun i => [(26, .int .i64 (i : Int))])
      (fun i => [.box (famLV ps us), .box s.lv, .box (famLV ps us), .box s.lv, .box (.clos 164 [.hp 2 0 []]), .arr 109 1 ((setsP ps.length (doneP ps.length V k i)).map uLV)]) (fun i => ps.length - i) (fun i => i ≤ ps.length) 0 (Nat.zero_le _) ?_ ?_
    · refine ⟨?_, ⟨rfl, rfl, rfl, rfl, rfl, rfl, trivial⟩, rfl, rfl⟩
      ((repeat ((conv => whnf); refine ⟨rfl, ?_⟩)); trivial)
    intro i hi
    generalize hKK : kk _ = KK
    ((repeat ((conv => whnf); first | refine brT ?_ | refine brF ?_)); conv => whnf)
    (refine ⟨fun g2 => ?_, fun g2 => ?_⟩ <;> rw [g2])
    · have hil : i < ps.length := by rw [ltI_t] at g2; omega
      have e2 := step_i hil hm'
      have hv := hV k i hlt hil
      ((repeat ((conv => whnf); first | refine brT ?_ | refine brF ?_)); conv => whnf)
      refine ⟨i, ps[i].lv, rfl, by simp [hil], rfl, ?_⟩
      ((repeat ((conv => whnf); first | refine brT ?_ | refine brF ?_)); conv => whnf)
      refine ⟨true, by kernel_rfl, ?_⟩
      ((repeat ((conv => whnf); first | refine brT ?_ | refine brF ?_)); conv => whnf)
      refine ⟨_, sexOfStep_spec s, ?_⟩
      ((repeat ((conv => whnf); first | refine brT ?_ | refine brF ?_)); conv => whnf)
      (refine ⟨fun q => ?_, fun q => ?_⟩ <;> rw [q])
      · ((repeat ((conv => whnf); first | refine brT ?_ | refine brF ?_)); conv => whnf)
        refine ⟨_, link2_spec ps us s k i hlt hil, ?_⟩
        ((repeat ((conv => whnf); first | refine brT ?_ | refine brF ?_)); conv => whnf)
        (refine ⟨fun q2 => ?_, fun q2 => ?_⟩ <;> rw [q2])
        · have hvt : V k i = true := by rw [hv, q, q2]; rfl
          have ep := doneP_put (V := V) (k := k) hil
          rw [hvt] at ep
          ((repeat ((conv => whnf); first | refine brT ?_ | refine brF ?_)); conv => whnf)
          refine ⟨by simp [setsP_len], rfl, k, rfl, by simpa [setsP_len] using hlt, ?_⟩
          ((repeat ((conv => whnf); first | refine brT ?_ | refine brF ?_)); conv => whnf)
          refine ⟨[5], _, _, _, _, add_elem ps.length (doneP ps.length V k i) k i hlt hil hN ps.length (by simp [setsP_len]), rfl, ?_⟩
          ((repeat ((conv => whnf); first | refine brT ?_ | refine brF ?_)); conv => whnf)
          refine ⟨rfl, rfl, trivial, ?_⟩
          ((repeat ((conv => whnf); first | refine brT ?_ | refine brF ?_)); conv => whnf)
          refine round_end (i + 1) hil (by omega) ⟨?_, ⟨rfl, rfl, rfl, rfl, rfl, congrArg (fun P => Blk.arr 109 1 ((setsP ps.length P).map uLV)) ep, trivial⟩, rfl, rfl⟩
          ((repeat ((conv => whnf); first | refine ⟨e2, ?_⟩ | refine ⟨rfl, ?_⟩)); trivial)
        · have hvf : V k i = false := by rw [hv, q, q2]; rfl
          ((repeat ((conv => whnf); first | refine brT ?_ | refine brF ?_)); conv => whnf)
          refine round_end (i + 1) hil (by omega) ⟨?_, ⟨rfl, rfl, rfl, rfl, rfl, congrArg (fun P => Blk.arr 109 1 ((setsP ps.length P).map uLV)) (doneP_skip hil hvf), trivial⟩, rfl, rfl⟩
          ((repeat ((conv => whnf); first | refine ⟨e2, ?_⟩ | refine ⟨rfl, ?_⟩)); trivial)
      · have hvf : V k i = false := by rw [hv, q]; rfl
        ((repeat ((conv => whnf); first | refine brT ?_ | refine brF ?_)); conv => whnf)
        refine round_end (i + 1) hil (by omega) ⟨?_, ⟨rfl, rfl, rfl, rfl, rfl, congrArg (fun P => Blk.arr 109 1 ((setsP ps.length P).map uLV)) (doneP_skip hil hvf), trivial⟩, rfl, rfl⟩
        ((repeat ((conv => whnf); first | refine ⟨e2, ?_⟩ | refine ⟨rfl, ?_⟩)); trivial)
    · have hil : i = ps.length := by rw [ltI_f] at g2; omega
      subst hil
      subst hKK
      ((repeat ((conv => whnf); first | refine brT ?_ | refine brF ?_)); conv => whnf)
      refine round_end (k + 1) hlt (by omega) ⟨?_, ⟨rfl, rfl, rfl, rfl, rfl, congrArg (fun P => Blk.arr 109 1 ((setsP ps.length P).map uLV)) (doneP_row ps.length V k), trivial⟩, rfl, rfl⟩
      ((repeat ((conv => whnf); first | refine ⟨e1, ?_⟩ | refine ⟨rfl, ?_⟩)); trivial)
  · have h3 : k = ps.length := by rw [ltI_f] at g1; omega
    subst h3
    ((repeat ((conv => whnf); first | refine brT ?_ | refine brF ?_)); conv => whnf)
    exact ⟨[.hs 0 ps.length], rfl, rfl, .inr ⟨[.old 5], ⟨rfl, rfl, trivial⟩, ⟨rfl, rfl, trivial⟩, rfl⟩⟩
end Go.Proofs.Ytdppjbiphekgjaa

namespace Go.Proofs.Ytdppjbiphekgjaa
open Go.Lg
set_option maxHeartbeats 6400000
set_option maxRecDepth 10000
set_option linter.unusedVariables false
set_option linter.unusedSimpArgs false

theorem reachOf_c (ps : List Per) (us : List Uni) (s : Pr) (hN : ps.length ≤ 40) (h1 : eqI s.a 1 = false) (h2 : eqI s.a 2 = false) (h3 : eqI s.a 3 = false) (h4 : eqI s.a 4 = false) (hk : (eqI s.a 5 || eqI s.a 6) = true) (V : Nat → Nat → Bool) (hV : ∀ (a b : Nat) (ha : a < ps.length) (hb : b < ps.length), V a b = (eqI ps[b].sex (sxOf s.a) && chB ps[b] a)) :
    HSpec env.P 67 [famLV ps us, s.lv] [] (.hs 0 ps.length) [.arr 109 1 ((setsP ps.length (doneP ps.length V ps.length 0)).map uLV)] := by
  refine HSpec_of_code (E := env.x [134, 136] 0) env_ok.x (fn := Try.f67) Try.func67 rfl Try.call67 _ _ _ _ ?_
  ((repeat ((conv => whnf); first | refine brT ?_ | refine brF ?_)); conv => whnf)
  refine ⟨[], _, _, _, _, linkOf_c ps us s h1 h2 h3 h4 hk, rfl, rfl, rfl, trivial, ?_⟩
  ((repeat ((conv => whnf); first | refine brT ?_ | refine brF ?_)); conv => whnf)
  intro hm
  have hm' : ps.length ≤ Go.maxLen := by simpa using hm
  rw [show (List.map Per.lv ps).length = ps.length by simp]
  ((repeat ((conv => whnf); first | refine brT ?_ | refine brF ?_)); conv => whnf)
  refine ⟨ps.length, rfl, rfl, by show 8 * ps.length ≤ _; omega, by unfold Go.maxLen; omega, rfl, by decide, ?_⟩
  have ez : List.replicate ps.length (LV.int .u64 0) = (setsP ps.length (doneP ps.length V 0 0)).map uLV := by rw [doneP_zero, ← setsP_zero]; simp [uLV]
  ((repeat ((conv => whnf); first | refine brT ?_ | refine brF ?_)); conv => whnf)
  rw [ez]
  intro _
  rw [show (List.map Per.lv ps).length = ps.length by simp]
  ((repeat ((conv => whnf); first | refine brT ?_ | refine brF ?_)); conv => whnf)
  refine loop_rule (α := Nat) (fun k => [(20, .int .i64 (k : Int))])
    (fun k => [.box (famLV ps us), .box s.lv, .box (famLV ps us), .box s.lv, .box (.clos 164 [.hp 2 0 []]), .arr 109 1 ((setsP ps.length (doneP ps.length V k 0)).map uLV)]) (fun k => ps.length - k) (fun k => k ≤ ps.length) 0 (Nat.zero_le _) ?_ ?_
  · refine ⟨?_, ⟨rfl, rfl, rfl, rfl, rfl, rfl, trivial⟩, rfl, rfl⟩
    ((repeat ((conv => whnf); refine ⟨rfl, ?_⟩)); trivial)
  intro k hk
  ((repeat ((conv => whnf); first | refine brT ?_ | refine brF ?_)); conv => whnf)
  (refine ⟨fun g1 => ?_, fun g1 => ?_⟩ <;> rw [g1])
  · have hlt : k < ps.length := by rw [ltI_t] at g1; omega
    have e1 := step_i hlt hm'
    ((repeat ((conv => whnf); first | refine brT ?_ | refine brF ?_)); conv => whnf)
    intro _
    rw [show (List.map Per.lv ps).length = ps.length by simp]
    ((repeat ((conv => whnf); first | refine brT ?_ | refine brF ?_)); conv => whnf)
    refine loop_rule (α := Nat) (fun i => [(26, .int .i64 (i : Int))])
      (fun i => [.box (famLV ps us), .box s.lv, .box (famLV ps us), .box s.lv, .box (.clos 164 [.hp 2 0 []]), .arr 109 1 ((setsP ps.length (doneP ps.length V k i)).map uLV)]) (fun i => ps.length - i) (fun i => i ≤ ps.length) 0 (Nat.zero_le _) ?_ ?_
    · refine ⟨?_, ⟨rfl, rfl, rfl, rfl, rfl, rfl, trivial⟩, rfl, rfl⟩
      ((repeat ((conv => whnf); refine ⟨rfl, ?_⟩)); trivial)
    intro i hi
    generalize hKK : kk _ = KK
    ((repeat ((conv => whnf); first | refine brT ?_ | refine brF ?_)); conv => whnf)
    (refine ⟨fun g2 => ?_, fun g2 => ?_⟩ <;> rw [g2])
    · have hil : i < ps.length := by rw [ltI_t] at g2; omega
      have e2 := step_i hil hm'
      have hv := hV k i hlt hil
      ((repeat ((conv => whnf); first | refine brT ?_ | refine brF ?_)); conv => whnf)
      refine ⟨i, ps[i].lv, rfl, by simp [hil], rfl, ?_⟩
      ((repeat ((conv => whnf); first | refine brT ?_ | refine brF ?_)); conv => whnf)
      refine ⟨true, by kernel_rfl, ?_⟩
      ((repeat ((conv => whnf); first | refine brT ?_ | refine brF ?_)); conv => whnf)
      refine ⟨_, sexOfStep_spec s, ?_⟩
      ((repeat ((conv => whnf); first | refine brT ?_ | refine brF ?_)); conv => whnf)
      (refine ⟨fun q => ?_, fun q => ?_⟩ <;> rw [q])
      · ((repeat ((conv => whnf); first | refine brT ?_ | refine brF ?_)); conv => whnf)
        refine ⟨_, link3_spec ps us k i hil, ?_⟩
        ((repeat ((conv => whnf); first | refine brT ?_ | refine brF ?_)); conv => whnf)
        (refine ⟨fun q2 => ?_, fun q2 => ?_⟩ <;> rw [q2])
        · have hvt : V k i = true := by rw [hv, q, q2]; rfl
          have ep := doneP_put (V := V) (k := k) hil
          rw [hvt] at ep
          ((repeat ((conv => whnf); first | refine brT ?_ | refine brF ?_)); conv => whnf)
          refine ⟨by simp [setsP_len], rfl, k, rfl, by simpa [setsP_len] using hlt, ?_⟩
          ((repeat ((conv => whnf); first | refine brT ?_ | refine brF ?_)); conv => whnf)
          refine ⟨[5], _, _, _, _, add_elem ps.length (doneP ps.length V k i) k i hlt hil hN ps.length (by simp [setsP_len]), rfl, ?_⟩
          ((repeat ((conv => whnf); first | refine brT ?_ | refine brF ?_)); conv => whnf)
          refine ⟨rfl, rfl, trivial, ?_⟩
          ((repeat ((conv => whnf); first | refine brT ?_ | refine brF ?_)); conv => whnf)
          refine round_end (i + 1) hil (by omega) ⟨?_, ⟨rfl, rfl, rfl, rfl, rfl, congrArg (fun P => Blk.arr 109 1 ((setsP ps.length P).map uLV)) ep, trivial⟩, rfl, rfl⟩
          ((repeat ((conv => whnf); first | refine ⟨e2, ?_⟩ | refine ⟨rfl, ?_⟩)); trivial)
        · have hvf : V k i = false := by rw [hv, q, q2]; rfl
          ((repeat ((conv => whnf); first | refine brT ?_ | refine brF ?_)); conv => whnf)
          refine round_end (i + 1) hil (by omega) ⟨?_, ⟨rfl, rfl, rfl, rfl, rfl, congrArg (fun P => Blk.arr 109 1 ((setsP ps.length P).map uLV)) (doneP_skip hil hvf), trivial⟩, rfl, rfl⟩
          ((repeat ((conv => whnf); first | refine ⟨e2, ?_⟩ | refine ⟨rfl, ?_⟩)); trivial)
      · have hvf : V k i = false := by rw [hv, q]; rfl
        ((repeat ((conv => whnf); first | refine brT ?_ | refine brF ?_)); conv => whnf)
        refine round_end (i + 1) hil (by omega) ⟨?_, ⟨rfl, rfl, rfl, rfl, rfl, congrArg (fun P => Blk.arr 109 1 ((setsP ps.length P).map uLV)) (doneP_skip hil hvf), trivial⟩, rfl, rfl⟩
        ((repeat ((conv => whnf); first | refine ⟨e2, ?_⟩ | refine ⟨rfl, ?_⟩)); trivial)
    · have hil : i = ps.length := by rw [ltI_f] at g2; omega
      subst hil
      subst hKK
      ((repeat ((conv => whnf); first | refine brT ?_ | refine brF ?_)); conv => whnf)
      refine round_end (k + 1) hlt (by omega) ⟨?_, ⟨rfl, rfl, rfl, rfl, rfl, congrArg (fun P => Blk.arr 109 1 ((setsP ps.length P).map uLV)) (doneP_row ps.length V k), trivial⟩, rfl, rfl⟩
      ((repeat ((conv => whnf); first | refine ⟨e1, ?_⟩ | refine ⟨rfl, ?_⟩)); trivial)
  · have h3 : k = ps.length := by rw [ltI_f] at g1; omega
    subst h3
    ((repeat ((conv => whnf); first | refine brT ?_ | refine brF ?_)); conv => whnf)
    exact ⟨[.hs 0 ps.length], rfl, rfl, .inr ⟨[.old 5], ⟨rfl, rfl, trivial⟩, ⟨rfl, rfl, trivial⟩, rfl⟩⟩
end Go.Proofs.Ytdppjbiphekgjaa
