/- Contracts of functions of the program and of its model, told over readings. -/
import Derived.Test.YtfdjeflnjciloaaH1
namespace Go.Proofs.Ytfdjeflnjciloaa
open Go.Lg
set_option maxHeartbeats 1600000
set_option maxRecDepth 10000
set_option linter.unusedVariables false
set_option linter.unusedSimpArgs false

def markUni (k : Nat) : Uni := ⟨(k : Int), (k : Int) + 1, (k : Int) + 2, (k : Int) + 3⟩
def markUnis (k : Nat) : Nat → List Uni
  | 0 => []
  | n + 1 => markUnis k n ++ [markUni (k + 4 * n)]
theorem markUnis_len (k : Nat) : ∀ n, (markUnis k n).length = n
  | 0 => rfl
  | n + 1 => by simp [markUnis, markUnis_len k n]
def rowUM (k : Nat) (ps : List Uni) (i : Nat) : List LV := (markUnis k i ++ ps.drop i).map Uni.lv
theorem rowUM_len {k : Nat} {ps : List Uni} {i : Nat} (h : i ≤ ps.length) : (rowUM k ps i).length = ps.length := by simp [rowUM, markUnis_len]; omega
theorem rowUM_get {k : Nat} {ps : List Uni} {i : Nat} (h : i < ps.length) : (rowUM k ps i)[i]? = some ps[i].lv := by
  unfold rowUM
  rw [List.getElem?_map, List.getElem?_append_right (by rw [markUnis_len]; exact Nat.le_refl _), markUnis_len, Nat.sub_self, List.getElem?_drop, Nat.add_zero, List.getElem?_eq_getElem h]
  rfl
theorem rowUM_set {k : Nat} {ps : List Uni} {i : Nat} (h : i < ps.length) : (rowUM k ps i).set i (markUni (k + 4 * i)).lv = rowUM k ps (i + 1) := by
  unfold rowUM
  rw [List.drop_eq_getElem_cons h, List.map_append, List.map_cons, List.set_append_right _ _ (by simp [markUnis_len])]
  simp [markUnis, markUnis_len]

theorem markUnionS_spec (ps : List Uni) (n : Nat) (hn : n = (ps.map Uni.lv).length) (k : Nat) (h1 : k + 4 * ps.length ≤ 2305843009213693952) :
    HSpec env.P 132 [.hs 0 n, .int .i64 (k : Int)] [.arr 125 4 (ps.map Uni.lv)] (.int .i64 ((k + 4 * ps.length : Nat) : Int)) [.arr 125 4 ((markUnis k ps.length).map Uni.lv)] := by
  subst hn
  refine HSpec_of_code (E := env.x [] 1) env_ok.x (fn := Try.f132) Try.func132 rfl Try.call132 _ _ _ _ ?_
  ((repeat ((conv => whnf); first | refine brT ?_ | refine brF ?_)); conv => whnf)
  refine loop_rule (α := Nat) (fun i => [(5, .int .i64 (i : Int)), (1, .int .i64 ((k + 4 * i : Nat) : Int)), (0, .hs 0 (rowUM k ps i).length)]) (fun i => [.arr 125 4 (rowUM k ps i)]) (fun i => ps.length - i) (fun i => i ≤ ps.length) 0 (Nat.zero_le _) ?_ ?_
  · have e0 : ps.map Uni.lv = rowUM k ps 0 := by simp [rowUM, markUnis]
    have e1 : LV.hs 0 (ps.map Uni.lv).length = LV.hs 0 (rowUM k ps 0).length := by rw [e0]
    refine ⟨?_, ⟨congrArg (Blk.arr 125 4) e0, trivial⟩, rfl, rfl⟩
    ((repeat ((conv => whnf); first | refine ⟨e1, ?_⟩ | refine ⟨rfl, ?_⟩)); trivial)
  intro i hi
  have hl := rowUM_len (k := k) hi
  ((repeat ((conv => whnf); first | refine brT ?_ | refine brF ?_)); conv => whnf)
  refine ⟨rfl, fun hm => ?_⟩
  have hm' : ps.length ≤ Go.maxLen := by rw [← hl]; exact hm
  ((repeat ((conv => whnf); first | refine brT ?_ | refine brF ?_)); conv => whnf)
  (refine ⟨fun g1 => ?_, fun g1 => ?_⟩ <;> rw [g1])
  · have hlt : i < ps.length := by rw [ltI_t] at g1; omega
    have e := step_i hlt hm'
    have hiL : i < (rowUM k ps i).length := by omega
    have hg := rowUM_get (k := k) hlt
    have hset := rowUM_set (k := k) hlt
    have w0 : IntKind.i64.wrap (((k + 4 * i : Nat) : Int) + 1) = ((k + 4 * i : Nat) : Int) + 1 := wrap64 (by omega) (by omega)
    have w1 : IntKind.i64.wrap (((k + 4 * i : Nat) : Int) + 1 + 1) = ((k + 4 * i : Nat) : Int) + 2 := by rw [wrap64 (by omega) (by omega)]; omega
    have w2 : IntKind.i64.wrap (((k + 4 * i : Nat) : Int) + 2 + 1) = ((k + 4 * i : Nat) : Int) + 3 := by rw [wrap64 (by omega) (by omega)]; omega
    have w3 : IntKind.i64.wrap (((k + 4 * i : Nat) : Int) + 3 + 1) = ((k + 4 * (i + 1) : Nat) : Int) := by rw [wrap64 (by omega) (by omega)]; omega
    have hlen : ∀ x : LV, (rowUM k ps i).length = ((rowUM k ps i).set i x).length := fun x => by simp
    generalize ps[i] = p at hg hset
    generalize hK : ((k + 4 * i : Nat) : Int) = kk at w0 w1 w2 w3 ⊢
    have hfin : (rowUM k ps i).set i (.st [.int .i64 kk, .int .i64 (kk + 1), .int .i64 (kk + 2), .int .i64 (kk + 3)]) = rowUM k ps (i + 1) := by
      rw [← hset]; unfold markUni Uni.lv; rw [hK]
    generalize rowUM k ps i = L at hl hm hiL hg hlen hfin g1 ⊢
    have hgp : getP (.st L) [i] = some (.st [LV.int .i64 p.husband, LV.int .i64 p.wife, LV.int .i64 p.since, LV.int .i64 p.till]) := by simp [getP, hg, Uni.lv]
    have hgp0 : getP (.st L) [i, 0] = some (.int .i64 p.husband) := by simp [getP, hg, Uni.lv]
    ((repeat ((conv => whnf); first | refine brT ?_ | refine brF ?_)); conv => whnf)
    refine ⟨rfl, rfl, i, rfl, hiL, ?_⟩
    ((repeat ((conv => whnf); first | refine brT ?_ | refine brF ?_)); conv => whnf)
    refine ⟨rfl, by simp, [LV.int .i64 p.husband, LV.int .i64 p.wife, LV.int .i64 p.since, LV.int .i64 p.till], hgp, rfl, by simp, ?_⟩
    ((repeat ((conv => whnf); first | refine brT ?_ | refine brF ?_)); conv => whnf)
    refine ⟨rfl, i, [0], .int .i64 p.husband, rfl, hgp0, rfl, rfl, rfl, L.set i (.st [.int .i64 kk, .int .i64 p.wife, .int .i64 p.since, .int .i64 p.till]), by rw [hg]; rfl, ?_⟩
    ((repeat ((conv => whnf); first | refine brT ?_ | refine brF ?_)); conv => whnf)
    rw [w0]
    refine ⟨hlen _, rfl, i, rfl, by simpa using hiL, ?_⟩
    ((repeat ((conv => whnf); first | refine brT ?_ | refine brF ?_)); conv => whnf)
    refine ⟨hlen _, by simp, _, fw_get hiL _, rfl, by simp, ?_⟩
    ((repeat ((conv => whnf); first | refine brT ?_ | refine brF ?_)); conv => whnf)
    refine ⟨hlen _, i, [1], _, rfl, fw_get2 hiL rfl, rfl, rfl, rfl, _, fw_set hiL rfl (.int .i64 (kk + 1)), ?_⟩
    ((repeat ((conv => whnf); first | refine brT ?_ | refine brF ?_)); conv => whnf)
    rw [w1]
    refine ⟨hlen _, rfl, i, rfl, by simpa using hiL, ?_⟩
    ((repeat ((conv => whnf); first | refine brT ?_ | refine brF ?_)); conv => whnf)
    refine ⟨hlen _, by simp, _, fw_get hiL _, rfl, by simp, ?_⟩
    ((repeat ((conv => whnf); first | refine brT ?_ | refine brF ?_)); conv => whnf)
    refine ⟨hlen _, i, [2], _, rfl, fw_get2 hiL rfl, rfl, rfl, rfl, _, fw_set hiL rfl (.int .i64 (kk + 2)), ?_⟩
    ((repeat ((conv => whnf); first | refine brT ?_ | refine brF ?_)); conv => whnf)
    rw [w2]
    refine ⟨hlen _, rfl, i, rfl, by simpa using hiL, ?_⟩
    ((repeat ((conv => whnf); first | refine brT ?_ | refine brF ?_)); conv => whnf)
    refine ⟨hlen _, by simp, _, fw_get hiL _, rfl, by simp, ?_⟩
    ((repeat ((conv => whnf); first | refine brT ?_ | refine brF ?_)); conv => whnf)
    refine ⟨hlen _, i, [3], _, rfl, fw_get2 hiL rfl, rfl, rfl, rfl, _, fw_set hiL rfl (.int .i64 (kk + 3)), ?_⟩
    ((repeat ((conv => whnf); first | refine brT ?_ | refine brF ?_)); conv => whnf)
    have e5 : LV.hs 0 L.length = LV.hs 0 (rowUM k ps (i + 1)).length := by rw [hl, rowUM_len (by omega)]
    have e6 : LV.int .i64 (IntKind.i64.wrap (kk + 3 + 1)) = LV.int .i64 ((k + 4 * (i + 1) : Nat) : Int) := by rw [w3]
    refine round_end (i + 1) hlt (by omega) ⟨?_, ⟨congrArg (Blk.arr 125 4) hfin, trivial⟩, rfl, rfl⟩
    repeat ((conv => whnf); first | refine ⟨e, ?_⟩ | refine ⟨e6, ?_⟩ | refine ⟨e5, ?_⟩ | refine ⟨rfl, ?_⟩)
    trivial
  · have h3 : i = ps.length := by rw [ltI_f] at g1; omega
    subst h3
    ((repeat ((conv => whnf); first | refine brT ?_ | refine brF ?_)); conv => whnf)
    exact ⟨[.int .i64 ((k + 4 * ps.length : Nat) : Int)], rfl, rfl, .inl ⟨⟨rfl, trivial⟩, ⟨by simp [rowUM], trivial⟩, rfl, rfl⟩⟩

theorem markFamily_spec (ps : List Per) (us : List Uni) (k : Nat) (h1 : k + 6 * ps.length + 4 * us.length ≤ 2305843009213693952) :
    HSpec env.P 52 [famHS ps.length us.length, .int .i64 (k : Int)] [.arr 87 6 (ps.map Per.lv), .arr 125 4 (us.map Uni.lv)] (.int .i64 ((k + 6 * ps.length + 4 * us.length : Nat) : Int))
      [.arr 87 6 ((markPers k ps.length).map Per.lv), .arr 125 4 ((markUnis (k + 6 * ps.length) us.length).map Uni.lv)] := by
  refine HSpec_of_code (E := env.x [131, 132] 2) env_ok.x (fn := Try.f52) Try.func52 rfl Try.call52 _ _ _ _ ?_
  ((repeat ((conv => whnf); first | refine brT ?_ | refine brF ?_)); conv => whnf)
  refine ⟨[0], _, _, _, _, markPersonS_spec ps ps.length (by simp) k (by omega), rfl, rfl, rfl, trivial, ?_⟩
  ((repeat ((conv => whnf); first | refine brT ?_ | refine brF ?_)); conv => whnf)
  refine ⟨[1], _, _, _, _, markUnionS_spec us us.length (by simp) (k + 6 * ps.length) (by omega), rfl, rfl, rfl, trivial, ?_⟩
  ((repeat ((conv => whnf); first | refine brT ?_ | refine brF ?_)); conv => whnf)
  exact ⟨[.int .i64 ((k + 6 * ps.length + 4 * us.length : Nat) : Int)], rfl, rfl, .inl ⟨⟨rfl, trivial⟩, ⟨rfl, rfl, trivial⟩, rfl, rfl⟩⟩

theorem knownParents_h (p : Per) : HSpec env.P 104 [p.lv] [] (.hs 0 ((known p).map intLV).length) [.arr 3 1 ((known p).map intLV)] := by
  refine HSpec_of_code (E := env.x [] 0) env_ok.x (fn := Try.f104) Try.func104 rfl Try.call104 _ _ _ _ ?_
  ((repeat ((conv => whnf); first | refine brT ?_ | refine brF ?_)); conv => whnf)
  refine ⟨rfl, fun _ => ?_⟩
  ((repeat ((conv => whnf); first | refine brT ?_ | refine brF ?_)); conv => whnf)
  refine loop_ruleR (α := Nat) [.old 0, .old 1, .nil 3 1] (fun k => [(12, .int .i64 (k : Int)), (3, .hs 2 ((knownTo p k).map intLV).length)]) (fun k => [.box p.lv, .arr 3 1 [.int .i64 p.father, .int .i64 p.mother], .arr 3 1 ((knownTo p k).map intLV)])
    (fun k => 2 - k) (fun k => k ≤ 2) 0 (by omega) ?_ ?_
  · refine ⟨?_, ⟨rfl, rfl, rfl, rfl, rfl, rfl, trivial⟩, rfl⟩
    ((repeat ((conv => whnf); refine ⟨rfl, rfl, ?_⟩)); trivial)
  intro k hk
  ((repeat ((conv => whnf); first | refine brT ?_ | refine brF ?_)); conv => whnf)
  have hn := knownTo_len p k
  have hn1 := knownTo_len p (k + 1)
  (refine ⟨fun h1 => ?_, fun h1 => ?_⟩ <;> rw [h1])
  · have hlt : k < 2 := by rw [ltI_t] at h1; simp at h1; omega
    have hs := knownTo_succ p k hlt
    ((repeat ((conv => whnf); first | refine brT ?_ | refine brF ?_)); conv => whnf)
    refine ⟨rfl, by decide, k, rfl, hlt, ?_⟩
    ((repeat ((conv => whnf); first | refine brT ?_ | refine brF ?_)); conv => whnf)
    refine ⟨rfl, by simp, .int .i64 ([p.father, p.mother][k]'hlt), ?_, rfl, ?_⟩
    · match k, hlt with
      | 0, _ => rfl
      | 1, _ => rfl
    ((repeat ((conv => whnf); first | refine brT ?_ | refine brF ?_)); conv => whnf)
    have e : LV.int .i64 (IntKind.i64.wrap ((k : Int) + 1)) = LV.int .i64 ((k + 1 : Nat) : Int) := step_i hlt (by decide)
    (refine ⟨fun h2 => ?_, fun h2 => ?_⟩ <;> rw [h2])
    · rw [show notNone ([p.father, p.mother][k]'hlt) = true from h2, if_pos rfl] at hs
      have e2 : ((knownTo p k).map intLV ++ [LV.int .i64 ([p.father, p.mother][k]'hlt)]) = (knownTo p (k + 1)).map intLV := by rw [hs, List.map_append]; rfl
      have e3 : LV.hs 2 ((knownTo p k).map intLV ++ [LV.int .i64 ([p.father, p.mother][k]'hlt)]).length = LV.hs 2 ((knownTo p (k + 1)).map intLV).length := by rw [e2]
      ((repeat ((conv => whnf); first | refine brT ?_ | refine brF ?_)); conv => whnf)
      refine ⟨rfl, rfl, ?_, ?_, ?_⟩
      · rw [e2]; unfold Go.maxLen; simp; omega
      · rw [e2]; simp; omega
      ((repeat ((conv => whnf); first | refine brT ?_ | refine brF ?_)); conv => whnf)
      refine round_endR [.old 0, .old 1, .old 4] (k + 1) hlt (by omega) ⟨?_, ⟨rfl, rfl, rfl, rfl, rfl, congrArg (Blk.arr 3 1) e2, trivial⟩, rfl⟩
      repeat ((conv => whnf); first | refine ⟨rfl, e, ?_⟩ | refine ⟨rfl, e3, ?_⟩ | refine ⟨rfl, rfl, ?_⟩)
      trivial
    · rw [show notNone ([p.father, p.mother][k]'hlt) = false from h2, if_neg (by decide), List.append_nil] at hs
      have e2 : (knownTo p k).map intLV = (knownTo p (k + 1)).map intLV := by rw [hs]
      have e3 : LV.hs 2 ((knownTo p k).map intLV).length = LV.hs 2 ((knownTo p (k + 1)).map intLV).length := by rw [e2]
      ((repeat ((conv => whnf); first | refine brT ?_ | refine brF ?_)); conv => whnf)
      refine round_end (k + 1) hlt (by omega) ⟨?_, ⟨rfl, rfl, congrArg (Blk.arr 3 1) e2, trivial⟩, rfl, rfl⟩
      repeat ((conv => whnf); first | refine ⟨e, ?_⟩ | refine ⟨e3, ?_⟩ | refine ⟨rfl, ?_⟩)
      trivial
  · have h3 : k = 2 := by rw [ltI_f] at h1; simp at h1; omega
    subst h3
    ((repeat ((conv => whnf); first | refine brT ?_ | refine brF ?_)); conv => whnf)
    exact ⟨[.hs 0 ((known p).map intLV).length], rfl, rfl, .inr ⟨[.old 2], ⟨rfl, rfl, trivial⟩, ⟨rfl, rfl, trivial⟩, rfl⟩⟩

def parentsL (ps : List Per) (us : List Uni) (p : Int) : List Int := match hasP ps us p with
  | true => match ps[p.toNat]? with | some x => known x | none => []
  | false => []
theorem parentsOf_h (ps : List Per) (us : List Uni) (p : Int) : HSpec env.P 32 [famLV ps us, .int .i64 p] [] (.hs 0 ((parentsL ps us p).map intLV).length) [.arr 3 1 ((parentsL ps us p).map intLV)] := by
  refine HSpec_of_code (E := env.x [104] 0) env_ok.x (fn := Try.f32) Try.func32 rfl Try.call32 _ _ _ _ ?_
  ((repeat ((conv => whnf); first | refine brT ?_ | refine brF ?_)); conv => whnf)
  refine ⟨_, hasPerson_spec ps us p, ?_⟩
  ((repeat ((conv => whnf); first | refine brT ?_ | refine brF ?_)); conv => whnf)
  (refine ⟨fun h => ?_, fun h => ?_⟩ <;> rw [h])
  · rw [notB_t] at h
    have e : parentsL ps us p = [] := by unfold parentsL; rw [h]
    rw [e]
    ((repeat ((conv => whnf); first | refine brT ?_ | refine brF ?_)); conv => whnf)
    refine ⟨[.hs 0 0], rfl, rfl, .inr ⟨[.nil 3 1], ?_, ?_, rfl⟩⟩
    · exact ⟨rfl, rfl, trivial⟩
    · exact ⟨rfl, rfl, trivial⟩
  · rw [notB_f] at h
    obtain ⟨p0, pl, _⟩ := hasP_lt h
    have e : parentsL ps us p = known ps[p.toNat] := by unfold parentsL; rw [h, List.getElem?_eq_getElem pl]
    rw [e]
    ((repeat ((conv => whnf); first | refine brT ?_ | refine brF ?_)); conv => whnf)
    refine ⟨p.toNat, ps[p.toNat].lv, by omega, by simp [pl], rfl, ?_⟩
    ((repeat ((conv => whnf); first | refine brT ?_ | refine brF ?_)); conv => whnf)
    refine ⟨[], _, _, _, _, knownParents_h ps[p.toNat], rfl, rfl, rfl, trivial, ?_⟩
    ((repeat ((conv => whnf); first | refine brT ?_ | refine brF ?_)); conv => whnf)
    refine ⟨[.hs 0 ((known ps[p.toNat]).map intLV).length], rfl, rfl, .inr ⟨[.old 1], ⟨rfl, rfl, trivial⟩, ⟨rfl, rfl, trivial⟩, rfl⟩⟩
theorem toFamily_hm (ps : List Per) (us : List Uni) (hp : 56 * ps.length ≤ 281474976710656) (hu : 32 * us.length ≤ 281474976710656) :
    HSpec env.P 49 [famLV ps us] [] (famHS (ps.map Per.lv).length (us.map Uni.lv).length) [.arr 87 6 (ps.map Per.lv), .arr 125 4 (us.map Uni.lv)] := by
  rw [List.length_map, List.length_map]; exact toFamily_h ps us hp hu
theorem markFamily_hm (ps : List Per) (us : List Uni) (k : Nat) (h1 : k + 6 * ps.length + 4 * us.length ≤ 2305843009213693952) :
    HSpec env.P 52 [famHS (ps.map Per.lv).length (us.map Uni.lv).length, .int .i64 (k : Int)] [.arr 87 6 (ps.map Per.lv), .arr 125 4 (us.map Uni.lv)] (.int .i64 ((k + 6 * ps.length + 4 * us.length : Nat) : Int))
      [.arr 87 6 ((markPers k ps.length).map Per.lv), .arr 125 4 ((markUnis (k + 6 * ps.length) us.length).map Uni.lv)] := by
  rw [List.length_map, List.length_map]; exact markFamily_spec ps us k h1
end Go.Proofs.Ytfdjeflnjciloaa
