/- Contracts of functions of the program and of its model, told over readings. -/
import Derived.Test.YtgkjafmmekjjlaaCWGB
import Derived.Test.YtgkjafmmekjjlaaCWGC
import Derived.Test.YtgkjafmmekjjlaaCWGA
import Derived.Test.YtgkjafmmekjjlaaCLgW
import Derived.Test.YtgkjafmmekjjlaaChecked
import Derived.WalkKit
import Derived.Lib.Walk
import Derived.Laws.Bits64b
import Derived.Laws.CopyOwn
import Derived.Deep.RegionLaw
import Derived.Deep.LoopGhost
import Derived.Deep.OwnRows
import Derived.Deep.RegionHeld
import Derived.KernelRfl
import Derived.OwnWalk
namespace Go.Proofs.Ytgkjafmmekjjlaa
open Go.Lg
set_option maxHeartbeats 1600000
set_option maxRecDepth 10000
set_option linter.unusedVariables false
set_option linter.unusedSimpArgs false

theorem toPersonS_h (ps : List Per) (hb : 56 * ps.length ≤ 281474976710656) : HSpec env.P 59 [.sl (ps.map Per.lv)] [] (.hs 0 ps.length) [.arr 106 6 (ps.map Per.lv)] := by
  refine HSpec_of_code (E := env.x [] 0) env_ok.x (fn := Try.f59) Try.func59 rfl Try.call59 _ _ _ _ ?_
  ((repeat ((conv => whnf); first | refine brT ?_ | refine brF ?_)); conv => whnf)
  intro hp
  have hp' : ps.length ≤ Go.maxLen := by simpa using hp
  ((repeat ((conv => whnf); first | refine brT ?_ | refine brF ?_)); conv => whnf)
  refine ⟨ps.length, by simp, by simp, hb, hp', rfl, by decide, ?_⟩
  ((repeat ((conv => whnf); first | refine brT ?_ | refine brF ?_)); conv => whnf)
  refine loop_rule (α := Nat) (fun k => [(4, .int .i64 (k : Int))]) (fun k => [.arr 106 6 (fillLV Per.lv zPer ps k)]) (fun k => ps.length - k) (fun k => k ≤ ps.length) 0 (Nat.zero_le _) ?_ ?_
  · refine ⟨?_, ⟨by simp [zPer, fillLV], trivial⟩, rfl, rfl⟩
    repeat ((conv => whnf); refine ⟨rfl, ?_⟩)
    trivial
  rintro k hk
  ((repeat ((conv => whnf); first | refine brT ?_ | refine brF ?_)); conv => whnf)
  intro _
  ((repeat ((conv => whnf); first | refine brT ?_ | refine brF ?_)); conv => whnf)
  refine ⟨fun h1 => ?_, fun h1 => ?_⟩ <;> rw [h1]
  · have hlt : k < ps.length := by rw [ltI_t] at h1; simp at h1; omega
    ((repeat ((conv => whnf); first | refine brT ?_ | refine brF ?_)); conv => whnf)
    refine ⟨k, ps[k].lv, rfl, by simp [hlt], rfl, ?_⟩
    ((repeat ((conv => whnf); first | refine brT ?_ | refine brF ?_)); conv => whnf)
    refine ⟨_, toPerson_spec ps[k], ?_⟩
    ((repeat ((conv => whnf); first | refine brT ?_ | refine brF ?_)); conv => whnf)
    refine ⟨(fill_len hk).symm, rfl, k, rfl, by rw [fill_len hk]; exact hlt, ?_⟩
    ((repeat ((conv => whnf); first | refine brT ?_ | refine brF ?_)); conv => whnf)
    refine ⟨(fill_len hk).symm, k, [], zPer, rfl, by simp [getP, fill_get hlt], rfl, rfl, rfl, _, rfl, ?_⟩
    ((repeat ((conv => whnf); first | refine brT ?_ | refine brF ?_)); conv => whnf)
    refine round_end (k + 1) hlt (by omega) ⟨?_, ⟨?_, trivial⟩, rfl, rfl⟩
    · have e := step_i hlt hp'
      repeat ((conv => whnf); first | refine ⟨e, ?_⟩ | refine ⟨rfl, ?_⟩)
      trivial
    · have e3 : (match (fillLV Per.lv zPer ps k)[k]? with | some z => (fillLV Per.lv zPer ps k).set k (setP z [] ps[k].lv) | none => fillLV Per.lv zPer ps k) = fillLV Per.lv zPer ps (k + 1) := by
        rw [fill_get hlt]
        simp only [zPer, setP]
        exact fill_set hlt
      exact congrArg (Blk.arr 106 6) e3
  · have h3 : ps.length ≤ k := by rw [ltI_f] at h1; simp at h1; omega
    have h4 : k = ps.length := by omega
    subst h4
    ((repeat ((conv => whnf); first | refine brT ?_ | refine brF ?_)); conv => whnf)
    exact ⟨[.hs 0 ps.length], rfl, rfl, .inl ⟨⟨rfl, trivial⟩, ⟨congrArg (Blk.arr 106 6) fill_all, trivial⟩, rfl, rfl⟩⟩
theorem toUnionS_h (ps : List Uni) (hb : 32 * ps.length ≤ 281474976710656) : HSpec env.P 60 [.sl (ps.map Uni.lv)] [] (.hs 0 ps.length) [.arr 77 4 (ps.map Uni.lv)] := by
  refine HSpec_of_code (E := env.x [] 0) env_ok.x (fn := Try.f60) Try.func60 rfl Try.call60 _ _ _ _ ?_
  ((repeat ((conv => whnf); first | refine brT ?_ | refine brF ?_)); conv => whnf)
  intro hp
  have hp' : ps.length ≤ Go.maxLen := by simpa using hp
  ((repeat ((conv => whnf); first | refine brT ?_ | refine brF ?_)); conv => whnf)
  refine ⟨ps.length, by simp, by simp, hb, hp', rfl, by decide, ?_⟩
  ((repeat ((conv => whnf); first | refine brT ?_ | refine brF ?_)); conv => whnf)
  refine loop_rule (α := Nat) (fun k => [(4, .int .i64 (k : Int))]) (fun k => [.arr 77 4 (fillLV Uni.lv zUni ps k)]) (fun k => ps.length - k) (fun k => k ≤ ps.length) 0 (Nat.zero_le _) ?_ ?_
  · refine ⟨?_, ⟨by simp [zUni, fillLV], trivial⟩, rfl, rfl⟩
    repeat ((conv => whnf); refine ⟨rfl, ?_⟩)
    trivial
  rintro k hk
  ((repeat ((conv => whnf); first | refine brT ?_ | refine brF ?_)); conv => whnf)
  intro _
  ((repeat ((conv => whnf); first | refine brT ?_ | refine brF ?_)); conv => whnf)
  refine ⟨fun h1 => ?_, fun h1 => ?_⟩ <;> rw [h1]
  · have hlt : k < ps.length := by rw [ltI_t] at h1; simp at h1; omega
    ((repeat ((conv => whnf); first | refine brT ?_ | refine brF ?_)); conv => whnf)
    refine ⟨k, ps[k].lv, rfl, by simp [hlt], rfl, ?_⟩
    ((repeat ((conv => whnf); first | refine brT ?_ | refine brF ?_)); conv => whnf)
    refine ⟨_, toUnion_spec ps[k], ?_⟩
    ((repeat ((conv => whnf); first | refine brT ?_ | refine brF ?_)); conv => whnf)
    refine ⟨(fill_len hk).symm, rfl, k, rfl, by rw [fill_len hk]; exact hlt, ?_⟩
    ((repeat ((conv => whnf); first | refine brT ?_ | refine brF ?_)); conv => whnf)
    refine ⟨(fill_len hk).symm, k, [], zUni, rfl, by simp [getP, fill_get hlt], rfl, rfl, rfl, _, rfl, ?_⟩
    ((repeat ((conv => whnf); first | refine brT ?_ | refine brF ?_)); conv => whnf)
    refine round_end (k + 1) hlt (by omega) ⟨?_, ⟨?_, trivial⟩, rfl, rfl⟩
    · have e := step_i hlt hp'
      repeat ((conv => whnf); first | refine ⟨e, ?_⟩ | refine ⟨rfl, ?_⟩)
      trivial
    · have e3 : (match (fillLV Uni.lv zUni ps k)[k]? with | some z => (fillLV Uni.lv zUni ps k).set k (setP z [] ps[k].lv) | none => fillLV Uni.lv zUni ps k) = fillLV Uni.lv zUni ps (k + 1) := by
        rw [fill_get hlt]
        simp only [zUni, setP]
        exact fill_set hlt
      exact congrArg (Blk.arr 77 4) e3
  · have h3 : ps.length ≤ k := by rw [ltI_f] at h1; simp at h1; omega
    have h4 : k = ps.length := by omega
    subst h4
    ((repeat ((conv => whnf); first | refine brT ?_ | refine brF ?_)); conv => whnf)
    exact ⟨[.hs 0 ps.length], rfl, rfl, .inl ⟨⟨rfl, trivial⟩, ⟨congrArg (Blk.arr 77 4) fill_all, trivial⟩, rfl, rfl⟩⟩

def famHS (a b : Nat) : LV := .st [.hs 0 a, .hs 1 b]
theorem toFamily_h (ps : List Per) (us : List Uni) (hp : 56 * ps.length ≤ 281474976710656) (hu : 32 * us.length ≤ 281474976710656) :
    HSpec env.P 14 [famLV ps us] [] (famHS ps.length us.length) [.arr 106 6 (ps.map Per.lv), .arr 77 4 (us.map Uni.lv)] := by
  refine HSpec_of_code (E := env.x [59, 60] 0) env_ok.x (fn := Try.f14) Try.func14 rfl Try.call14 _ _ _ _ ?_
  ((repeat ((conv => whnf); first | refine brT ?_ | refine brF ?_)); conv => whnf)
  refine ⟨[], _, _, _, _, toPersonS_h ps hp, rfl, rfl, rfl, trivial, ?_⟩
  ((repeat ((conv => whnf); first | refine brT ?_ | refine brF ?_)); conv => whnf)
  refine ⟨[], _, _, _, _, toUnionS_h us hu, rfl, rfl, rfl, trivial, ?_⟩
  ((repeat ((conv => whnf); first | refine brT ?_ | refine brF ?_)); conv => whnf)
  refine ⟨[famHS ps.length us.length], rfl, rfl, .inr ⟨[.old 3, .old 4], ?_, ?_, rfl⟩⟩
  · ((repeat ((conv => whnf); refine ⟨rfl, rfl, ?_⟩)); trivial)
  · exact ⟨rfl, rfl, rfl, rfl, trivial⟩
end Go.Proofs.Ytgkjafmmekjjlaa


namespace Go.Proofs.Ytgkjafmmekjjlaa
open Go.Lg
set_option maxHeartbeats 1600000
set_option maxRecDepth 10000
set_option linter.unusedVariables false
set_option linter.unusedSimpArgs false

def markUni (k : Nat) : Uni := ⟨(k : Int), (k : Int) + 1, (k : Int) + 2, (k : Int) + 3⟩
def markUnis (k : Nat) : Nat → List Uni
  | 0 => []
  | n + 1 => markUnis k n ++ [markUni (k + 4 * n)]
theorem markUnis_len (k : Nat) : ∀ n, (markUnis k n).length = n
  | 0 => rfl
  | n + 1 => by simp [markUnis, markUnis_len k n]
def rowUM (k : Nat) (ps : List Uni) (i : Nat) : List LV := (markUnis k i ++ ps.drop i).map Uni.lv
theorem rowUM_len {k : Nat} {ps : List Uni} {i : Nat} (h : i ≤ ps.length) : (rowUM k ps i).length = ps.length := by simp [rowUM, markUnis_len]; omega
theorem rowUM_get {k : Nat} {ps : List Uni} {i : Nat} (h : i < ps.length) : (rowUM k ps i)[i]? = some ps[i].lv := by
  unfold rowUM
  rw [List.getElem?_map, List.getElem?_append_right (by rw [markUnis_len]; exact Nat.le_refl _), markUnis_len, Nat.sub_self, List.getElem?_drop, Nat.add_zero, List.getElem?_eq_getElem h]
  rfl
theorem rowUM_set {k : Nat} {ps : List Uni} {i : Nat} (h : i < ps.length) : (rowUM k ps i).set i (markUni (k + 4 * i)).lv = rowUM k ps (i + 1) := by
  unfold rowUM
  rw [List.drop_eq_getElem_cons h, List.map_append, List.map_cons, List.set_append_right _ _ (by simp [markUnis_len])]
  simp [markUnis, markUnis_len]

theorem markUnionS_spec (ps : List Uni) (n : Nat) (hn : n = (ps.map Uni.lv).length) (k : Nat) (h1 : k + 4 * ps.length ≤ 2305843009213693952) :
    HSpec env.P 66 [.hs 0 n, .int .i64 (k : Int)] [.arr 77 4 (ps.map Uni.lv)] (.int .i64 ((k + 4 * ps.length : Nat) : Int)) [.arr 77 4 ((markUnis k ps.length).map Uni.lv)] := by
  subst hn
  refine HSpec_of_code (E := env.x [] 1) env_ok.x (fn := Try.f66) Try.func66 rfl Try.call66 _ _ _ _ ?_
  ((repeat ((conv => whnf); first | refine brT ?_ | refine brF ?_)); conv => whnf)
  refine loop_rule (α := Nat) (fun i => [(5, .int .i64 (i : Int)), (1, .int .i64 ((k + 4 * i : Nat) : Int)), (0, .hs 0 (rowUM k ps i).length)]) (fun i => [.arr 77 4 (rowUM k ps i)]) (fun i => ps.length - i) (fun i => i ≤ ps.length) 0 (Nat.zero_le _) ?_ ?_
  · have e0 : ps.map Uni.lv = rowUM k ps 0 := by simp [rowUM, markUnis]
    have e1 : LV.hs 0 (ps.map Uni.lv).length = LV.hs 0 (rowUM k ps 0).length := by rw [e0]
    refine ⟨?_, ⟨congrArg (Blk.arr 77 4) e0, trivial⟩, rfl, rfl⟩
    ((repeat ((conv => whnf); first | refine ⟨e1, ?_⟩ | refine ⟨rfl, ?_⟩)); trivial)
  intro i hi
  have hl := rowUM_len (k := k) hi
  ((repeat ((conv => whnf); first | refine brT ?_ | refine brF ?_)); conv => whnf)
  refine ⟨rfl, fun hm => ?_⟩
  have hm' : ps.length ≤ Go.maxLen := by rw [← hl]; exact hm
  ((repeat ((conv => whnf); first | refine brT ?_ | refine brF ?_)); conv => whnf)
  (refine ⟨fun g1 => ?_, fun g1 => ?_⟩ <;> rw [g1])
  · have hlt : i < ps.length := by rw [ltI_t] at g1; omega
    have e := step_i hlt hm'
    have hiL : i < (rowUM k ps i).length := by omega
    have hg := rowUM_get (k := k) hlt
    have hset := rowUM_set (k := k) hlt
    have w0 : IntKind.i64.wrap (((k + 4 * i : Nat) : Int) + 1) = ((k + 4 * i : Nat) : Int) + 1 := wrap64 (by omega) (by omega)
    have w1 : IntKind.i64.wrap (((k + 4 * i : Nat) : Int) + 1 + 1) = ((k + 4 * i : Nat) : Int) + 2 := by rw [wrap64 (by omega) (by omega)]; omega
    have w2 : IntKind.i64.wrap (((k + 4 * i : Nat) : Int) + 2 + 1) = ((k + 4 * i : Nat) : Int) + 3 := by rw [wrap64 (by omega) (by omega)]; omega
    have w3 : IntKind.i64.wrap (((k + 4 * i : Nat) : Int) + 3 + 1) = ((k + 4 * (i + 1) : Nat) : Int) := by rw [wrap64 (by omega) (by omega)]; omega
    have hlen : ∀ x : LV, (rowUM k ps i).length = ((rowUM k ps i).set i x).length := fun x => by simp
    generalize ps[i] = p at hg hset
    generalize hK : ((k + 4 * i : Nat) : Int) = kk at w0 w1 w2 w3 ⊢
    have hfin : (rowUM k ps i).set i (.st [.int .i64 kk, .int .i64 (kk + 1), .int .i64 (kk + 2), .int .i64 (kk + 3)]) = rowUM k ps (i + 1) := by
      rw [← hset]; unfold markUni Uni.lv; rw [hK]
    generalize rowUM k ps i = L at hl hm hiL hg hlen hfin g1 ⊢
    have hgp : getP (.st L) [i] = some (.st [LV.int .i64 p.husband, LV.int .i64 p.wife, LV.int .i64 p.since, LV.int .i64 p.till]) := by simp [getP, hg, Uni.lv]
    have hgp0 : getP (.st L) [i, 0] = some (.int .i64 p.husband) := by simp [getP, hg, Uni.lv]
    ((repeat ((conv => whnf); first | refine brT ?_ | refine brF ?_)); conv => whnf)
    refine ⟨rfl, rfl, i, rfl, hiL, ?_⟩
    ((repeat ((conv => whnf); first | refine brT ?_ | refine brF ?_)); conv => whnf)
    refine ⟨rfl, by simp, [LV.int .i64 p.husband, LV.int .i64 p.wife, LV.int .i64 p.since, LV.int .i64 p.till], hgp, rfl, by simp, ?_⟩
    ((repeat ((conv => whnf); first | refine brT ?_ | refine brF ?_)); conv => whnf)
    refine ⟨rfl, i, [0], .int .i64 p.husband, rfl, hgp0, rfl, rfl, rfl, L.set i (.st [.int .i64 kk, .int .i64 p.wife, .int .i64 p.since, .int .i64 p.till]), by rw [hg]; rfl, ?_⟩
    ((repeat ((conv => whnf); first | refine brT ?_ | refine brF ?_)); conv => whnf)
    rw [w0]
    refine ⟨hlen _, rfl, i, rfl, by simpa using hiL, ?_⟩
    ((repeat ((conv => whnf); first | refine brT ?_ | refine brF ?_)); conv => whnf)
    refine ⟨hlen _, by simp, _, fw_get hiL _, rfl, by simp, ?_⟩
    ((repeat ((conv => whnf); first | refine brT ?_ | refine brF ?_)); conv => whnf)
    refine ⟨hlen _, i, [1], _, rfl, fw_get2 hiL rfl, rfl, rfl, rfl, _, fw_set hiL rfl (.int .i64 (kk + 1)), ?_⟩
    ((repeat ((conv => whnf); first | refine brT ?_ | refine brF ?_)); conv => whnf)
    rw [w1]
    refine ⟨hlen _, rfl, i, rfl, by simpa using hiL, ?_⟩
    ((repeat ((conv => whnf); first | refine brT ?_ | refine brF ?_)); conv => whnf)
    refine ⟨hlen _, by simp, _, fw_get hiL _, rfl, by simp, ?_⟩
    ((repeat ((conv => whnf); first | refine brT ?_ | refine brF ?_)); conv => whnf)
    refine ⟨hlen _, i, [2], _, rfl, fw_get2 hiL rfl, rfl, rfl, rfl, _, fw_set hiL rfl (.int .i64 (kk + 2)), ?_⟩
    ((repeat ((conv => whnf); first | refine brT ?_ | refine brF ?_)); conv => whnf)
    rw [w2]
    refine ⟨hlen _, rfl, i, rfl, by simpa using hiL, ?_⟩
    ((repeat ((conv => whnf); first | refine brT ?_ | refine brF ?_)); conv => whnf)
    refine ⟨hlen _, by simp, _, fw_get hiL _, rfl, by simp, ?_⟩
    ((repeat ((conv => whnf); first | refine brT ?_ | refine brF ?_)); conv => whnf)
    refine ⟨hlen _, i, [3], _, rfl, fw_get2 hiL rfl, rfl, rfl, rfl, _, fw_set hiL rfl (.int .i64 (kk + 3)), ?_⟩
    ((repeat ((conv => whnf); first | refine brT ?_ | refine brF ?_)); conv => whnf)
    have e5 : LV.hs 0 L.length = LV.hs 0 (rowUM k ps (i + 1)).length := by rw [hl, rowUM_len (by omega)]
    have e6 : LV.int .i64 (IntKind.i64.wrap (kk + 3 + 1)) = LV.int .i64 ((k + 4 * (i + 1) : Nat) : Int) := by rw [w3]
    refine round_end (i + 1) hlt (by omega) ⟨?_, ⟨congrArg (Blk.arr 77 4) hfin, trivial⟩, rfl, rfl⟩
    repeat ((conv => whnf); first | refine ⟨e, ?_⟩ | refine ⟨e6, ?_⟩ | refine ⟨e5, ?_⟩ | refine ⟨rfl, ?_⟩)
    trivial
  · have h3 : i = ps.length := by rw [ltI_f] at g1; omega
    subst h3
    ((repeat ((conv => whnf); first | refine brT ?_ | refine brF ?_)); conv => whnf)
    exact ⟨[.int .i64 ((k + 4 * ps.length : Nat) : Int)], rfl, rfl, .inl ⟨⟨rfl, trivial⟩, ⟨by simp [rowUM], trivial⟩, rfl, rfl⟩⟩

theorem markFamily_spec (ps : List Per) (us : List Uni) (k : Nat) (h1 : k + 6 * ps.length + 4 * us.length ≤ 2305843009213693952) :
    HSpec env.P 18 [famHS ps.length us.length, .int .i64 (k : Int)] [.arr 106 6 (ps.map Per.lv), .arr 77 4 (us.map Uni.lv)] (.int .i64 ((k + 6 * ps.length + 4 * us.length : Nat) : Int))
      [.arr 106 6 ((markPers k ps.length).map Per.lv), .arr 77 4 ((markUnis (k + 6 * ps.length) us.length).map Uni.lv)] := by
  refine HSpec_of_code (E := env.x [65, 66] 2) env_ok.x (fn := Try.f18) Try.func18 rfl Try.call18 _ _ _ _ ?_
  ((repeat ((conv => whnf); first | refine brT ?_ | refine brF ?_)); conv => whnf)
  refine ⟨[0], _, _, _, _, markPersonS_spec ps ps.length (by simp) k (by omega), rfl, rfl, rfl, trivial, ?_⟩
  ((repeat ((conv => whnf); first | refine brT ?_ | refine brF ?_)); conv => whnf)
  refine ⟨[1], _, _, _, _, markUnionS_spec us us.length (by simp) (k + 6 * ps.length) (by omega), rfl, rfl, rfl, trivial, ?_⟩
  ((repeat ((conv => whnf); first | refine brT ?_ | refine brF ?_)); conv => whnf)
  exact ⟨[.int .i64 ((k + 6 * ps.length + 4 * us.length : Nat) : Int)], rfl, rfl, .inl ⟨⟨rfl, trivial⟩, ⟨rfl, rfl, trivial⟩, rfl, rfl⟩⟩

theorem toFamily_hm (ps : List Per) (us : List Uni) (hp : 56 * ps.length ≤ 281474976710656) (hu : 32 * us.length ≤ 281474976710656) :
    HSpec env.P 14 [famLV ps us] [] (famHS (ps.map Per.lv).length (us.map Uni.lv).length) [.arr 106 6 (ps.map Per.lv), .arr 77 4 (us.map Uni.lv)] := by
  rw [List.length_map, List.length_map]; exact toFamily_h ps us hp hu
theorem markFamily_hm (ps : List Per) (us : List Uni) (k : Nat) (h1 : k + 6 * ps.length + 4 * us.length ≤ 2305843009213693952) :
    HSpec env.P 18 [famHS (ps.map Per.lv).length (us.map Uni.lv).length, .int .i64 (k : Int)] [.arr 106 6 (ps.map Per.lv), .arr 77 4 (us.map Uni.lv)] (.int .i64 ((k + 6 * ps.length + 4 * us.length : Nat) : Int))
      [.arr 106 6 ((markPers k ps.length).map Per.lv), .arr 77 4 ((markUnis (k + 6 * ps.length) us.length).map Uni.lv)] := by
  rw [List.length_map, List.length_map]; exact markFamily_spec ps us k h1
end Go.Proofs.Ytgkjafmmekjjlaa


namespace Go.Proofs.Ytgkjafmmekjjlaa
open Go.Lg
set_option maxHeartbeats 1600000
set_option maxRecDepth 10000
set_option linter.unusedVariables false
set_option linter.unusedSimpArgs false

end Go.Proofs.Ytgkjafmmekjjlaa

namespace Go.Proofs.Ytgkjafmmekjjlaa
open Go.Lg
set_option maxHeartbeats 1600000
set_option maxRecDepth 10000
set_option linter.unusedVariables false
set_option linter.unusedSimpArgs false

/-! A table that is filled row by row. -/
/-! ### Steps in a family, as the model has them -/
end Go.Proofs.Ytgkjafmmekjjlaa


namespace Go.Proofs.Ytgkjafmmekjjlaa
open Go.Lg
set_option maxHeartbeats 6400000
set_option maxRecDepth 10000
set_option linter.unusedVariables false
set_option linter.unusedSimpArgs false

end Go.Proofs.Ytgkjafmmekjjlaa

namespace Go.Proofs.Ytgkjafmmekjjlaa
open Go.Lg
set_option maxHeartbeats 6400000
set_option maxRecDepth 10000
set_option linter.unusedVariables false
set_option linter.unusedSimpArgs false

end Go.Proofs.Ytgkjafmmekjjlaa

namespace Go.Proofs.Ytgkjafmmekjjlaa
open Go.Lg
set_option maxHeartbeats 6400000
set_option maxRecDepth 10000
set_option linter.unusedVariables false
set_option linter.unusedSimpArgs false

end Go.Proofs.Ytgkjafmmekjjlaa

namespace Go.Proofs.Ytgkjafmmekjjlaa
open Go.Lg
set_option maxHeartbeats 6400000
set_option maxRecDepth 10000
set_option linter.unusedVariables false
set_option linter.unusedSimpArgs false

end Go.Proofs.Ytgkjafmmekjjlaa

namespace Go.Proofs.Ytgkjafmmekjjlaa
open Go.Lg
set_option maxHeartbeats 6400000
set_option maxRecDepth 10000
set_option linter.unusedVariables false
set_option linter.unusedSimpArgs false

end Go.Proofs.Ytgkjafmmekjjlaa

namespace Go.Proofs.Ytgkjafmmekjjlaa
open Go.Lg
set_option maxHeartbeats 6400000
set_option maxRecDepth 10000
set_option linter.unusedVariables false
set_option linter.unusedSimpArgs false

end Go.Proofs.Ytgkjafmmekjjlaa

namespace Go.Proofs.Ytgkjafmmekjjlaa
open Go.Lg
set_option maxHeartbeats 3200000
set_option maxRecDepth 10000
set_option linter.unusedVariables false
set_option linter.unusedSimpArgs false

end Go.Proofs.Ytgkjafmmekjjlaa

namespace Go.Proofs.Ytgkjafmmekjjlaa
open Go.Lg
set_option maxHeartbeats 3200000
set_option maxRecDepth 10000
set_option linter.unusedVariables false
set_option linter.unusedSimpArgs false

/-! ### Steps in a family, as the program has them -/
end Go.Proofs.Ytgkjafmmekjjlaa

namespace Go.Proofs.Ytgkjafmmekjjlaa
open Go.Lg
set_option maxHeartbeats 3200000
set_option maxRecDepth 10000
set_option linter.unusedVariables false
set_option linter.unusedSimpArgs false

end Go.Proofs.Ytgkjafmmekjjlaa

namespace Go.Proofs.Ytgkjafmmekjjlaa
open Go.Lg
set_option maxHeartbeats 6400000
set_option maxRecDepth 10000
set_option linter.unusedVariables false
set_option linter.unusedSimpArgs false

end Go.Proofs.Ytgkjafmmekjjlaa

namespace Go.Proofs.Ytgkjafmmekjjlaa
open Go.Lg
set_option maxHeartbeats 6400000
set_option maxRecDepth 10000
set_option linter.unusedVariables false
set_option linter.unusedSimpArgs false

end Go.Proofs.Ytgkjafmmekjjlaa

namespace Go.Proofs.Ytgkjafmmekjjlaa
open Go.Lg
set_option maxHeartbeats 6400000
set_option maxRecDepth 10000
set_option linter.unusedVariables false
set_option linter.unusedSimpArgs false

end Go.Proofs.Ytgkjafmmekjjlaa

namespace Go.Proofs.Ytgkjafmmekjjlaa
open Go.Lg
set_option maxHeartbeats 6400000
set_option maxRecDepth 10000
set_option linter.unusedVariables false
set_option linter.unusedSimpArgs false

end Go.Proofs.Ytgkjafmmekjjlaa

namespace Go.Proofs.Ytgkjafmmekjjlaa
open Go.Lg
set_option maxHeartbeats 6400000
set_option maxRecDepth 10000
set_option linter.unusedVariables false
set_option linter.unusedSimpArgs false

end Go.Proofs.Ytgkjafmmekjjlaa

namespace Go.Proofs.Ytgkjafmmekjjlaa
open Go.Lg
set_option maxHeartbeats 3200000
set_option maxRecDepth 10000
set_option linter.unusedVariables false
set_option linter.unusedSimpArgs false

/-! ### In a valid family both ways of following a step are one -/
theorem par_one {ps : List Per} {i : Nat} {x sx born : Int} (h : parentOk (ps.take i) x sx born = true) :
    (x = -1 ∨ (0 ≤ x ∧ x.toNat < ps.length)) ∧ ∀ (b : Nat) (hb : b < ps.length), x = (b : Int) → ps[b].sex = sx := by
  unfold parentOk at h
  simp only [Bool.or_eq_true, eqI_t, Bool.and_eq_true, leI_t] at h
  rcases h with h | ⟨h0, h1⟩
  · exact ⟨.inl h, fun b hb e => by omega⟩
  · split at h1
    · cases h1
    · rename_i q hq
      obtain ⟨hl, e⟩ := List.getElem?_eq_some_iff.1 hq
      simp only [Bool.and_eq_true, eqI_t] at h1
      rw [List.length_take] at hl
      rw [List.getElem_take] at e
      refine ⟨.inr ⟨h0, by omega⟩, fun b hb ex => ?_⟩
      have eb : x.toNat = b := by omega
      subst eb
      rw [e]
      exact h1.1
theorem par_sex {ps : List Per} {us : List Uni} (h : famOk ps us = true) {i : Nat} (hi : i < ps.length) :
    ((ps[i].father = -1 ∨ (0 ≤ ps[i].father ∧ ps[i].father.toNat < ps.length)) ∧ ∀ (b : Nat) (hb : b < ps.length), ps[i].father = (b : Int) → ps[b].sex = 1) ∧
    ((ps[i].mother = -1 ∨ (0 ≤ ps[i].mother ∧ ps[i].mother.toNat < ps.length)) ∧ ∀ (b : Nat) (hb : b < ps.length), ps[i].mother = (b : Int) → ps[b].sex = 2) := by
  obtain ⟨_, _, hp, _, _⟩ := famOk_parts h
  obtain ⟨_, _, _, _, _, _, p1, p2⟩ := personOk_spec (personsTo_get hp hi hi)
  exact ⟨par_one p1, par_one p2⟩
/-- A father is no one's mother. -/
theorem far {ps : List Per} {us : List Uni} (h : famOk ps us = true) {i j : Nat} (hi : i < ps.length) (hj : j < ps.length) (e : ps[i].father ≠ -1) : ps[i].father ≠ ps[j].mother := by
  obtain ⟨⟨f1, f2⟩, _⟩ := par_sex h hi
  obtain ⟨_, _, m2⟩ := par_sex h hj
  intro k
  rcases f1 with f1 | ⟨f0, fl⟩
  · exact e f1
  · have a1 := f2 _ fl (by omega)
    have a2 := m2 _ fl (by omega)
    omega

section
variable {ps : List Per} {us : List Uni} {s : Pr} (h : famOk ps us = true)
include h
end

end Go.Proofs.Ytgkjafmmekjjlaa

namespace Go.Proofs.Ytgkjafmmekjjlaa
open Go.Lg
set_option maxHeartbeats 6400000
set_option maxRecDepth 10000
set_option linter.unusedVariables false
set_option linter.unusedSimpArgs false

theorem WeakS.idn {n0 : Nat} {ts : List LV} {H : List Blk} (h1 : wk ts ts) (h2 : wkH n0 H H) (h3 : (scs (below H.length) ts && H.all (scB (below H.length))) = true) : Weak n0 ts H ts H := by
  simp only [Bool.and_eq_true] at h3
  exact .inl ⟨h1, h2, h3.1, h3.2⟩
end Go.Proofs.Ytgkjafmmekjjlaa

namespace Go.Proofs.Ytgkjafmmekjjlaa
open Go.Lg Go.RowKit Go.ChangeShapes Go.WideShapes Go.Deep Go.Joins
set_option linter.unusedVariables false
set_option linter.unusedSimpArgs false
set_option maxRecDepth 100000

theorem list_of {α : Type} {lv : α → LV} {Q : α → Prop} : ∀ (xs : List LV), (∀ x ∈ xs, ∃ p, x = lv p ∧ Q p) → ∃ ps : List α, xs = ps.map lv ∧ ∀ p ∈ ps, Q p
  | [], _ => ⟨[], rfl, by simp⟩
  | x :: xs, h => by
    obtain ⟨p, rfl, hp⟩ := h x (by simp)
    obtain ⟨ps, rfl, hps⟩ := list_of xs fun y hy => h y (by simp [hy])
    exact ⟨p :: ps, rfl, List.forall_mem_cons.2 ⟨hp, hps⟩⟩

section
variable {H : Type} {enc : TypeId × Value → H} {w : World}
end
end Go.Proofs.Ytgkjafmmekjjlaa


namespace Go.Proofs.Ytgkjafmmekjjlaa
open Go.Lg
set_option maxRecDepth 10000
set_option linter.unusedVariables false
set_option linter.unusedSimpArgs false

/-! ### A family, out of an argument's shape -/
abbrev shPer : Sh := .st [.str, .int .i64, .int .i64, .int .i64, .int .i64, .int .i64]
abbrev shUni : Sh := .st [.int .i64, .int .i64, .int .i64, .int .i64]
abbrev shFam : Sh := .st [.sl (.st [.str, .int .i64, .int .i64, .int .i64, .int .i64, .int .i64]), .sl (.st [.int .i64, .int .i64, .int .i64, .int .i64])]
theorem per_of_sh {x : LV} (h : hasSh shPer x) : ∃ p : Per, x = p.lv ∧ p.name.size ≤ maxLen := by
  simp only [hasSh] at h
  obtain ⟨xs, rfl, h⟩ := h
  match xs, h with
  | [a, b, c, d, e, f], h =>
    simp only [hasShs, hasSh] at h
    obtain ⟨⟨s, rfl, hs⟩, ⟨n1, rfl⟩, ⟨n2, rfl⟩, ⟨n3, rfl⟩, ⟨n4, rfl⟩, ⟨n5, rfl⟩, _⟩ := h
    exact ⟨⟨s, n1, n2, n3, n4, n5⟩, rfl, hs⟩
  | [], h => simp [hasShs] at h
  | [_], h => simp [hasShs] at h
  | [_, _], h => simp [hasShs] at h
  | [_, _, _], h => simp [hasShs] at h
  | [_, _, _, _], h => simp [hasShs] at h
  | [_, _, _, _, _], h => simp [hasShs] at h
  | _ :: _ :: _ :: _ :: _ :: _ :: _ :: _, h => simp [hasShs] at h
theorem uni_of_sh {x : LV} (h : hasSh shUni x) : ∃ u : Uni, x = u.lv ∧ True := by
  simp only [hasSh] at h
  obtain ⟨xs, rfl, h⟩ := h
  match xs, h with
  | [a, b, c, d], h =>
    simp only [hasShs, hasSh] at h
    obtain ⟨⟨n1, rfl⟩, ⟨n2, rfl⟩, ⟨n3, rfl⟩, ⟨n4, rfl⟩, _⟩ := h
    exact ⟨⟨n1, n2, n3, n4⟩, rfl, trivial⟩
  | [], h => simp [hasShs] at h
  | [_], h => simp [hasShs] at h
  | [_, _], h => simp [hasShs] at h
  | [_, _, _], h => simp [hasShs] at h
  | _ :: _ :: _ :: _ :: _ :: _, h => simp [hasShs] at h
theorem fam_of_sh {x : LV} (h : hasSh shFam x) : ∃ (ps : List Per) (us : List Uni), x = famLV ps us ∧ FamOK ps us := by
  simp only [hasSh] at h
  obtain ⟨xs, rfl, h⟩ := h
  match xs, h with
  | [a, b], h =>
    simp only [hasShs, hasSh] at h
    obtain ⟨⟨ys, rfl, hl, hy⟩, ⟨zs, rfl, hm, hz⟩, _⟩ := h
    obtain ⟨ps, rfl, hps⟩ := list_of (lv := Per.lv) (Q := fun p => p.name.size ≤ maxLen) ys fun y hy' => per_of_sh (by simp only [hasSh]; exact hy y hy')
    obtain ⟨us, rfl, _⟩ := list_of (lv := Uni.lv) (Q := fun _ => True) zs fun y hy' => uni_of_sh (by simp only [hasSh]; exact hz y hy')
    exact ⟨ps, us, rfl, ⟨by simpa using hl, by simpa using hm, hps⟩⟩
  | [], h => simp [hasShs] at h
  | [_], h => simp [hasShs] at h
  | _ :: _ :: _ :: _, h => simp [hasShs] at h
end Go.Proofs.Ytgkjafmmekjjlaa


namespace Go.Proofs.Ytgkjafmmekjjlaa
open Go.Lg
set_option maxHeartbeats 800000
set_option maxRecDepth 10000
set_option linter.unusedVariables false
set_option linter.unusedSimpArgs false

/-! UnionEnd -/
theorem endOf_spec (ps : List Per) (us : List Uni) (u : Uni) (h : UniIn ps u) : FSpec env.P 105 [famLV ps us, u.lv] (endLV (endO ps u)) := by
  refine FSpec_of_code env_ok (fn := Try.f105) Try.func105 rfl Try.call105 _ _ ?_
  have he : endO ps u = match eqI u.till (-1) with | false => some u.till | true => endOf2 (ps[u.husband.toNat]'h.ml).died (ps[u.wife.toNat]'h.wl).died := by
    unfold endO
    (rw [List.getElem?_eq_getElem h.ml, List.getElem?_eq_getElem h.wl]) <;> rfl
  obtain ⟨m0, ml, w0, wl⟩ := h
  ((repeat ((conv => whnf); first | refine brT ?_ | refine brF ?_)); conv => whnf)
  (refine ⟨fun h1 => ?_, fun h1 => ?_⟩ <;> rw [h1])
  · rw [notB_t] at h1
    rw [h1] at he
    rw [he]
    ((repeat ((conv => whnf); first | refine brT ?_ | refine brF ?_)); conv => whnf)
    refine ⟨rfl, rfl, ?_⟩
    ((repeat ((conv => whnf); first | refine brT ?_ | refine brF ?_)); conv => whnf)
    exact ⟨rfl, List.nodup_nil⟩
  · rw [notB_f] at h1
    rw [h1] at he
    rw [he]
    ((repeat ((conv => whnf); first | refine brT ?_ | refine brF ?_)); conv => whnf)
    refine ⟨true, by kernel_rfl, ?_⟩
    ((repeat ((conv => whnf); first | refine brT ?_ | refine brF ?_)); conv => whnf)
    refine ⟨u.husband.toNat, ps[u.husband.toNat].lv, by omega, by simp [ml], rfl, ?_⟩
    ((repeat ((conv => whnf); first | refine brT ?_ | refine brF ?_)); conv => whnf)
    refine ⟨u.wife.toNat, ps[u.wife.toNat].lv, by omega, by simp [wl], rfl, ?_⟩
    generalize ps[u.husband.toNat] = x
    generalize ps[u.wife.toNat] = y
    ((repeat ((conv => whnf); first | refine brT ?_ | refine brF ?_)); conv => whnf)
    (refine ⟨fun g1 => ?_, fun g1 => ?_⟩ <;> rw [g1])
    · ((repeat ((conv => whnf); first | refine brT ?_ | refine brF ?_)); conv => whnf)
      (refine ⟨fun g2 => ?_, fun g2 => ?_⟩ <;> rw [g2])
      · have e : endOf2 x.died y.died = none := by simp [endOf2, g1, g2]
        rw [e]
        ((repeat ((conv => whnf); first | refine brT ?_ | refine brF ?_)); conv => whnf)
        refine ⟨rfl, rfl, ?_⟩
        ((repeat ((conv => whnf); first | refine brT ?_ | refine brF ?_)); conv => whnf)
        exact ⟨rfl, List.nodup_nil⟩
      · have e : endOf2 x.died y.died = some y.died := by simp [endOf2, g1, g2]
        rw [e]
        ((repeat ((conv => whnf); first | refine brT ?_ | refine brF ?_)); conv => whnf)
        rw [g1]
        ((repeat ((conv => whnf); first | refine brT ?_ | refine brF ?_)); conv => whnf)
        refine ⟨rfl, rfl, ?_⟩
        ((repeat ((conv => whnf); first | refine brT ?_ | refine brF ?_)); conv => whnf)
        exact ⟨rfl, List.nodup_nil⟩
    · ((repeat ((conv => whnf); first | refine brT ?_ | refine brF ?_)); conv => whnf)
      rw [g1]
      ((repeat ((conv => whnf); first | refine brT ?_ | refine brF ?_)); conv => whnf)
      (refine ⟨fun g2 => ?_, fun g2 => ?_⟩ <;> rw [g2])
      · have e : endOf2 x.died y.died = some x.died := by simp [endOf2, g1, g2]
        rw [e]
        ((repeat ((conv => whnf); first | refine brT ?_ | refine brF ?_)); conv => whnf)
        refine ⟨rfl, rfl, ?_⟩
        ((repeat ((conv => whnf); first | refine brT ?_ | refine brF ?_)); conv => whnf)
        exact ⟨rfl, List.nodup_nil⟩
      · have e : endOf2 x.died y.died = some (minI x.died y.died) := by simp [endOf2, g1, g2]
        rw [e]
        ((repeat ((conv => whnf); first | refine brT ?_ | refine brF ?_)); conv => whnf)
        refine ⟨rfl, rfl, ?_⟩
        ((repeat ((conv => whnf); first | refine brT ?_ | refine brF ?_)); conv => whnf)
        exact ⟨rfl, List.nodup_nil⟩

theorem l1End_spec (ps : List Per) (us : List Uni) (u : Uni) (h : UniIn ps u) (hy : UniYears ps u h) : FSpec env.P 58 [famLV ps us, u.lv] (endLV (endO ps u)) := by
  refine FSpec_of_code env_ok (fn := Try.f58) Try.func58 rfl Try.call58 _ _ ?_
  have he : endO ps u = match eqI u.till (-1) with | false => some u.till | true => endOf2 (ps[u.husband.toNat]'h.ml).died (ps[u.wife.toNat]'h.wl).died := by
    unfold endO
    (rw [List.getElem?_eq_getElem h.ml, List.getElem?_eq_getElem h.wl]) <;> rfl
  obtain ⟨ht, hm, hw⟩ := hy
  obtain ⟨m0, ml, w0, wl⟩ := h
  rw [endOf2_years hm hw] at he
  ((repeat ((conv => whnf); first | refine brT ?_ | refine brF ?_)); conv => whnf)
  (refine ⟨fun h1 => ?_, fun h1 => ?_⟩ <;> rw [h1])
  · have : eqI u.till (-1) = false := by rw [eqI_f]; rw [leI_t] at h1; omega
    rw [this] at he
    rw [he]
    ((repeat ((conv => whnf); first | refine brT ?_ | refine brF ?_)); conv => whnf)
    refine ⟨rfl, rfl, ?_⟩
    ((repeat ((conv => whnf); first | refine brT ?_ | refine brF ?_)); conv => whnf)
    exact ⟨rfl, List.nodup_nil⟩
  · have : eqI u.till (-1) = true := by rw [eqI_t]; rw [leI_f] at h1; omega
    rw [this] at he
    rw [he]
    ((repeat ((conv => whnf); first | refine brT ?_ | refine brF ?_)); conv => whnf)
    refine ⟨u.husband.toNat, ps[u.husband.toNat].lv, by omega, by simp [ml], rfl, ?_⟩
    ((repeat ((conv => whnf); first | refine brT ?_ | refine brF ?_)); conv => whnf)
    refine ⟨u.wife.toNat, ps[u.wife.toNat].lv, by omega, by simp [wl], rfl, ?_⟩
    generalize ps[u.husband.toNat] = x at hm ⊢
    generalize ps[u.wife.toNat] = y at hw ⊢
    ((repeat' (((repeat ((conv => whnf); first | refine brT ?_ | refine brF ?_)); conv => whnf); (refine And.intro ?_ ?_ <;> (intro h; rw [h]; revert h; intro _)))); all_goals ((repeat ((conv => whnf); first | refine brT ?_ | refine brF ?_)); conv => whnf))
    all_goals
      simp only [ltI_t, ltI_f, leI_t, leI_f] at *
      by_cases c1 : x.died < 0 ∧ y.died < 0
      · first
          | (exfalso; omega)
          | (rw [if_pos c1]
             ((repeat ((conv => whnf); first | refine brT ?_ | refine brF ?_)); conv => whnf)
             refine ⟨rfl, rfl, ?_⟩
             ((repeat ((conv => whnf); first | refine brT ?_ | refine brF ?_)); conv => whnf)
             exact ⟨rfl, List.nodup_nil⟩)
      · rw [if_neg c1]
        by_cases c2 : x.died < 0 ∨ (0 ≤ y.died ∧ y.died < x.died)
        · first
            | (exfalso; omega)
            | (rw [if_pos c2]
               ((repeat ((conv => whnf); first | refine brT ?_ | refine brF ?_)); conv => whnf)
               refine ⟨rfl, rfl, ?_⟩
               ((repeat ((conv => whnf); first | refine brT ?_ | refine brF ?_)); conv => whnf)
               exact ⟨rfl, List.nodup_nil⟩)
        · first
            | (exfalso; omega)
            | (rw [if_neg c2]
               ((repeat ((conv => whnf); first | refine brT ?_ | refine brF ?_)); conv => whnf)
               refine ⟨rfl, rfl, ?_⟩
               ((repeat ((conv => whnf); first | refine brT ?_ | refine brF ?_)); conv => whnf)
               exact ⟨rfl, List.nodup_nil⟩)
end Go.Proofs.Ytgkjafmmekjjlaa


namespace Go.Proofs.Ytgkjafmmekjjlaa
open Go.Lg
set_option maxHeartbeats 1600000
set_option maxRecDepth 10000
set_option linter.unusedVariables false
set_option linter.unusedSimpArgs false

/-! PartnersOf: the other of each union that is kept, in order. -/
def otherL (keep : Uni → Bool) (p : Int) (u : Uni) : List Int := match keep u with
  | false => []
  | true => match eqI p u.husband with
    | true => [u.wife]
    | false => match eqI p u.wife with
      | true => [u.husband]
      | false => []
def othersTo (keep : Uni → Bool) (p : Int) (us : List Uni) (k : Nat) : List Int := (us.take k).flatMap (otherL keep p)
theorem othersTo_succ (keep : Uni → Bool) (p : Int) (us : List Uni) {k : Nat} (h : k < us.length) : othersTo keep p us (k + 1) = othersTo keep p us k ++ otherL keep p us[k] := by
  unfold othersTo
  rw [List.take_succ_eq_append_getElem h, List.flatMap_append]
  simp
theorem otherL_len (keep : Uni → Bool) (p : Int) (u : Uni) : (otherL keep p u).length ≤ 1 := by
  unfold otherL
  repeat' split
  all_goals simp
theorem othersTo_len (keep : Uni → Bool) (p : Int) (us : List Uni) (k : Nat) : (othersTo keep p us k).length ≤ us.length := by
  unfold othersTo
  have : ∀ l : List Uni, (l.flatMap (otherL keep p)).length ≤ l.length := by
    intro l
    induction l with
    | nil => simp
    | cons x xs ih => simp only [List.flatMap_cons, List.length_append, List.length_cons]; have := otherL_len keep p x; omega
  exact Nat.le_trans (this _) (by simp; omega)

end Go.Proofs.Ytgkjafmmekjjlaa

namespace Go.Proofs.Ytgkjafmmekjjlaa
open Go.Lg
set_option maxHeartbeats 1600000
set_option maxRecDepth 10000
set_option linter.unusedVariables false
set_option linter.unusedSimpArgs false

theorem eqI_comm (a b : Int) : eqI a b = eqI b a := by
  cases h : eqI b a
  · rw [eqI_f] at h ⊢; omega
  · rw [eqI_t] at h ⊢; omega
def otherV (p : Int) (u : Uni) : Int := match eqI u.husband p with | true => u.wife | false => u.husband
def otherB (p : Int) (u : Uni) : Bool := match eqI u.husband p with | true => true | false => eqI u.wife p
theorem l1Other_spec (u : Uni) (p : Int) : FSpec env.P 57 [u.lv, .int .i64 p] (.tup [.int .i64 (otherV p u), .bool (otherB p u)]) := by
  refine FSpec_of_code env_ok (fn := Try.f57) Try.func57 rfl Try.call57 _ _ ?_
  ((repeat ((conv => whnf); first | refine brT ?_ | refine brF ?_)); conv => whnf)
  (refine ⟨fun h => ?_, fun h => ?_⟩ <;> rw [h])
  · rw [show otherV p u = u.wife by unfold otherV; rw [h], show otherB p u = true by unfold otherB; rw [h]]
    ((repeat ((conv => whnf); first | refine brT ?_ | refine brF ?_)); conv => whnf)
    refine ⟨rfl, rfl, ?_⟩
    ((repeat ((conv => whnf); first | refine brT ?_ | refine brF ?_)); conv => whnf)
    exact ⟨rfl, List.nodup_nil⟩
  · rw [show otherV p u = u.husband by unfold otherV; rw [h], show otherB p u = eqI u.wife p by unfold otherB; rw [h]]
    ((repeat ((conv => whnf); first | refine brT ?_ | refine brF ?_)); conv => whnf)
    refine ⟨true, by kernel_rfl, ?_⟩
    ((repeat ((conv => whnf); first | refine brT ?_ | refine brF ?_)); conv => whnf)
    refine ⟨rfl, rfl, ?_⟩
    ((repeat ((conv => whnf); first | refine brT ?_ | refine brF ?_)); conv => whnf)
    exact ⟨rfl, List.nodup_nil⟩

end Go.Proofs.Ytgkjafmmekjjlaa

namespace Go.Proofs.Ytgkjafmmekjjlaa
open Go.Lg
set_option maxHeartbeats 1600000
set_option maxRecDepth 10000
set_option linter.unusedVariables false
set_option linter.unusedSimpArgs false

def lasts (y : Int) : Option Int → Bool
  | none => true
  | some e => ltI y e
def keepAt (ps : List Per) (y : Int) (u : Uni) : Bool := leI u.since y && lasts y (endO ps u)
theorem keepAt_spec (ps : List Per) (us : List Uni) (y : Int) (u : Uni) (h : UniIn ps u) : FSpec env.P 104 [u.lv, .ref (famLV ps us), .ref (.int .i64 y)] (.bool (keepAt ps y u)) := by
  refine FSpec_of_code env_ok (fn := Try.f104) Try.func104 rfl Try.call104 _ _ ?_
  have hs := endOf_spec ps us u h
  cases he : endO ps u <;> rw [he] at hs
  · ((repeat' (((repeat ((conv => whnf); first | refine brT ?_ | refine brF ?_)); conv => whnf); first | (refine And.intro ?_ ?_ <;> (intro h; rw [h]; revert h; intro _)) | (refine Exists.intro true (And.intro (a := drawB _ _ = true) (by kernel_rfl) ?_)) | (refine Exists.intro _ (And.intro (hs) ?_)))); all_goals ((repeat ((conv => whnf); first | refine brT ?_ | refine brF ?_)); conv => whnf))
    all_goals (refine fin ?_; simp_all [keepAt, lasts, notB])
  · ((repeat' (((repeat ((conv => whnf); first | refine brT ?_ | refine brF ?_)); conv => whnf); first | (refine And.intro ?_ ?_ <;> (intro h; rw [h]; revert h; intro _)) | (refine Exists.intro true (And.intro (a := drawB _ _ = true) (by kernel_rfl) ?_)) | (refine Exists.intro _ (And.intro (hs) ?_)))); all_goals ((repeat ((conv => whnf); first | refine brT ?_ | refine brF ?_)); conv => whnf))
    all_goals (refine fin ?_; simp_all [keepAt, lasts, notB])

theorem partnersInAt_h (keep : Uni → Bool) (ps : List Per) (us : List Uni) (p y : Int) (hu : us.length ≤ 60)
    (hk : ∀ (k : Nat) (h : k < us.length), FSpec env.P 104 [us[k].lv, .ref (famLV ps us), .ref (.int .i64 y)] (.bool (keep us[k]))) :
    HSpec env.P 103 [famLV ps us, .int .i64 p, .clos 104 [.hp 0 0 [], .hp 1 0 []]] [.box (famLV ps us), .box (.int .i64 y)] (.hs 2 ((othersTo keep p us us.length).map intLV).length) [.box (famLV ps us), .box (.int .i64 y), .arr 3 1 ((othersTo keep p us us.length).map intLV)] := by
  refine HSpec_of_code (E := env.x [] 2) env_ok.x (fn := Try.f103) Try.func103 rfl Try.call103 _ _ _ _ ?_
  ((repeat ((conv => whnf); first | refine brT ?_ | refine brF ?_)); conv => whnf)
  intro hn
  ((repeat ((conv => whnf); first | refine brT ?_ | refine brF ?_)); conv => whnf)
  refine loop_ruleR (α := Nat) [.old 0, .old 1, .old 2, .nil 3 1] (fun k => [(13, .int .i64 (k : Int)), (7, .hs 3 ((othersTo keep p us k).map intLV).length)]) (fun k => [.box (famLV ps us), .box (.int .i64 y), .box (famLV ps us), .arr 3 1 ((othersTo keep p us k).map intLV)])
    (fun k => us.length - k) (fun k => k ≤ us.length) 0 (Nat.zero_le _) ?_ ?_
  · refine ⟨?_, ⟨rfl, rfl, rfl, rfl, rfl, rfl, rfl, rfl, trivial⟩, rfl⟩
    repeat ((conv => whnf); first | refine ⟨rfl, rfl, ?_⟩)
    trivial
  intro k hk0
  ((repeat ((conv => whnf); first | refine brT ?_ | refine brF ?_)); conv => whnf)
  (refine ⟨fun h1 => ?_, fun h1 => ?_⟩ <;> rw [h1])
  · have hlt : k < us.length := by rw [ltI_t] at h1; simp at h1; omega
    have hs := othersTo_succ keep p us hlt
    have hl := othersTo_len keep p us k
    have hl1 := othersTo_len keep p us (k + 1)
    have e : LV.int .i64 (IntKind.i64.wrap ((k : Int) + 1)) = LV.int .i64 ((k + 1 : Nat) : Int) := step_i hlt (by unfold Go.maxLen; omega)
    ((repeat ((conv => whnf); first | refine brT ?_ | refine brF ?_)); conv => whnf)
    refine ⟨k, us[k].lv, rfl, by simp [hlt], rfl, ?_⟩
    ((repeat ((conv => whnf); first | refine brT ?_ | refine brF ?_)); conv => whnf)
    refine ⟨_, hk k hlt, ?_⟩
    generalize us[k] = u at hs
    ((repeat ((conv => whnf); first | refine brT ?_ | refine brF ?_)); conv => whnf)
    (refine ⟨fun h2 => ?_, fun h2 => ?_⟩ <;> rw [h2])
    · rw [notB_t] at h2
      rw [show otherL keep p u = [] by unfold otherL; rw [h2], List.append_nil] at hs
      ((repeat ((conv => whnf); first | refine brT ?_ | refine brF ?_)); conv => whnf)
      refine round_endR [.old 0, .old 1, .old 2, .old 3] (k + 1) hlt (by omega) ⟨?_, ⟨rfl, rfl, rfl, rfl, rfl, rfl, rfl, congrArg (Blk.arr 3 1) (by rw [hs]), trivial⟩, rfl⟩
      have e3 : LV.hs 3 ((othersTo keep p us k).map intLV).length = LV.hs 3 ((othersTo keep p us (k + 1)).map intLV).length := by rw [hs]
      repeat ((conv => whnf); first | refine ⟨rfl, e, ?_⟩ | refine ⟨rfl, e3, ?_⟩ | refine ⟨rfl, rfl, ?_⟩)
      trivial
    rw [notB_f] at h2
    ((repeat ((conv => whnf); first | refine brT ?_ | refine brF ?_)); conv => whnf)
    (refine ⟨fun h3 => ?_, fun h3 => ?_⟩ <;> rw [h3])
    · rw [show otherL keep p u = [u.wife] by unfold otherL; rw [h2, h3]] at hs
      have e2 : ((othersTo keep p us k).map intLV ++ [LV.int .i64 u.wife]) = (othersTo keep p us (k + 1)).map intLV := by rw [hs, List.map_append]; rfl
      have e3 : LV.hs 3 ((othersTo keep p us k).map intLV ++ [LV.int .i64 u.wife]).length = LV.hs 3 ((othersTo keep p us (k + 1)).map intLV).length := by rw [e2]
      ((repeat ((conv => whnf); first | refine brT ?_ | refine brF ?_)); conv => whnf)
      refine ⟨rfl, rfl, ?_, ?_, ?_⟩
      · rw [e2]; unfold Go.maxLen; simp; omega
      · rw [e2]; simp; omega
      ((repeat ((conv => whnf); first | refine brT ?_ | refine brF ?_)); conv => whnf)
      refine round_endR [.old 0, .old 1, .old 2, .old 6] (k + 1) hlt (by omega) ⟨?_, ⟨rfl, rfl, rfl, rfl, rfl, rfl, rfl, congrArg (Blk.arr 3 1) e2, trivial⟩, rfl⟩
      repeat ((conv => whnf); first | refine ⟨rfl, e, ?_⟩ | refine ⟨rfl, e3, ?_⟩ | refine ⟨rfl, rfl, ?_⟩)
      trivial
    ((repeat ((conv => whnf); first | refine brT ?_ | refine brF ?_)); conv => whnf)
    (refine ⟨fun h4 => ?_, fun h4 => ?_⟩ <;> rw [h4])
    · rw [show otherL keep p u = [u.husband] by unfold otherL; rw [h2, h3, h4]] at hs
      have e2 : ((othersTo keep p us k).map intLV ++ [LV.int .i64 u.husband]) = (othersTo keep p us (k + 1)).map intLV := by rw [hs, List.map_append]; rfl
      have e3 : LV.hs 3 ((othersTo keep p us k).map intLV ++ [LV.int .i64 u.husband]).length = LV.hs 3 ((othersTo keep p us (k + 1)).map intLV).length := by rw [e2]
      ((repeat ((conv => whnf); first | refine brT ?_ | refine brF ?_)); conv => whnf)
      refine ⟨rfl, rfl, ?_, ?_, ?_⟩
      · rw [e2]; unfold Go.maxLen; simp; omega
      · rw [e2]; simp; omega
      ((repeat ((conv => whnf); first | refine brT ?_ | refine brF ?_)); conv => whnf)
      refine round_endR [.old 0, .old 1, .old 2, .old 6] (k + 1) hlt (by omega) ⟨?_, ⟨rfl, rfl, rfl, rfl, rfl, rfl, rfl, congrArg (Blk.arr 3 1) e2, trivial⟩, rfl⟩
      repeat ((conv => whnf); first | refine ⟨rfl, e, ?_⟩ | refine ⟨rfl, e3, ?_⟩ | refine ⟨rfl, rfl, ?_⟩)
      trivial
    · rw [show otherL keep p u = [] by unfold otherL; rw [h2, h3, h4], List.append_nil] at hs
      ((repeat ((conv => whnf); first | refine brT ?_ | refine brF ?_)); conv => whnf)
      refine round_endR [.old 0, .old 1, .old 2, .old 3] (k + 1) hlt (by omega) ⟨?_, ⟨rfl, rfl, rfl, rfl, rfl, rfl, rfl, congrArg (Blk.arr 3 1) (by rw [hs]), trivial⟩, rfl⟩
      have e3 : LV.hs 3 ((othersTo keep p us k).map intLV).length = LV.hs 3 ((othersTo keep p us (k + 1)).map intLV).length := by rw [hs]
      repeat ((conv => whnf); first | refine ⟨rfl, e, ?_⟩ | refine ⟨rfl, e3, ?_⟩ | refine ⟨rfl, rfl, ?_⟩)
      trivial
  · have h3 : k = us.length := by rw [ltI_f] at h1; simp at h1; omega
    subst h3
    ((repeat ((conv => whnf); first | refine brT ?_ | refine brF ?_)); conv => whnf)
    exact ⟨[.hs 2 ((othersTo keep p us us.length).map intLV).length], rfl, rfl, .inr ⟨[.old 0, .old 1, .old 3], ⟨rfl, rfl, trivial⟩, ⟨rfl, rfl, rfl, rfl, rfl, rfl, trivial⟩, rfl⟩⟩
end Go.Proofs.Ytgkjafmmekjjlaa


namespace Go.Proofs.Ytgkjafmmekjjlaa
open Go.Lg
set_option maxHeartbeats 1600000
set_option maxRecDepth 10000
set_option linter.unusedVariables false
set_option linter.unusedSimpArgs false

def marriedL (ps : List Per) (us : List Uni) (p y : Int) : List Int := match hasP ps us p with
  | true => othersTo (keepAt ps y) p us us.length
  | false => []
theorem other_eq2 (keep : Uni → Bool) (p : Int) (u : Uni) : otherL keep p u = match otherB p u && keep u with | true => [otherV p u] | false => [] := by
  unfold otherL otherB otherV
  rw [eqI_comm p u.husband, eqI_comm p u.wife]
  cases keep u <;> cases eqI u.husband p <;> cases eqI u.wife p <;> rfl
theorem marriedL_len (ps : List Per) (us : List Uni) (p y : Int) : (marriedL ps us p y).length ≤ 60 := by
  unfold marriedL
  split
  · rename_i h
    obtain ⟨_, _, hok⟩ := hasP_lt h
    exact Nat.le_trans (othersTo_len _ _ _ _) (famOk_parts hok).2.1
  · simp
theorem partnersAt_h (ps : List Per) (us : List Uni) (p y : Int) (hok : famOk ps us = true) : HSpec env.P 62 [famLV ps us, .int .i64 p, .int .i64 y] [] (.hs 0 ((othersTo (keepAt ps y) p us us.length).map intLV).length) [.arr 3 1 ((othersTo (keepAt ps y) p us us.length).map intLV)] := by
  refine HSpec_of_code (E := env.x [103] 0) env_ok.x (fn := Try.f62) Try.func62 rfl Try.call62 _ _ _ _ ?_
  ((repeat ((conv => whnf); first | refine brT ?_ | refine brF ?_)); conv => whnf)
  refine ⟨[0, 1], _, _, _, _, partnersInAt_h (keepAt ps y) ps us p y (famOk_parts hok).2.1 (fun k hk => keepAt_spec ps us y us[k] (uni_of hok hk).1), rfl, rfl, rfl, trivial, ?_⟩
  ((repeat ((conv => whnf); first | refine brT ?_ | refine brF ?_)); conv => whnf)
  refine ⟨[.hs 0 _], rfl, rfl, .inr ⟨[.old 2], ⟨rfl, rfl, trivial⟩, ⟨rfl, rfl, trivial⟩, rfl⟩⟩
theorem marriedAt_h (ps : List Per) (us : List Uni) (p y : Int) : HSpec env.P 15 [famLV ps us, .int .i64 p, .int .i64 y] [] (.hs 0 ((marriedL ps us p y).map intLV).length) [.arr 3 1 ((marriedL ps us p y).map intLV)] := by
  refine HSpec_of_code (E := env.x [62] 0) env_ok.x (fn := Try.f15) Try.func15 rfl Try.call15 _ _ _ _ ?_
  ((repeat ((conv => whnf); first | refine brT ?_ | refine brF ?_)); conv => whnf)
  refine ⟨_, hasPerson_spec ps us p, ?_⟩
  ((repeat ((conv => whnf); first | refine brT ?_ | refine brF ?_)); conv => whnf)
  (refine ⟨fun h => ?_, fun h => ?_⟩ <;> rw [h])
  · rw [notB_t] at h
    have e : marriedL ps us p y = [] := by unfold marriedL; rw [h]
    rw [e]
    ((repeat ((conv => whnf); first | refine brT ?_ | refine brF ?_)); conv => whnf)
    refine ⟨[.hs 0 0], rfl, rfl, .inr ⟨[.nil 3 1], ?_, ?_, rfl⟩⟩
    · exact ⟨rfl, rfl, trivial⟩
    · exact ⟨rfl, rfl, trivial⟩
  · rw [notB_f] at h
    obtain ⟨p0, pl, hok⟩ := hasP_lt h
    have e : marriedL ps us p y = othersTo (keepAt ps y) p us us.length := by unfold marriedL; rw [h]
    rw [e]
    ((repeat ((conv => whnf); first | refine brT ?_ | refine brF ?_)); conv => whnf)
    refine ⟨[], _, _, _, _, partnersAt_h ps us p y hok, rfl, rfl, rfl, trivial, ?_⟩
    ((repeat ((conv => whnf); first | refine brT ?_ | refine brF ?_)); conv => whnf)
    refine ⟨[.hs 0 _], rfl, rfl, .inr ⟨[.old 1], ⟨rfl, rfl, trivial⟩, ⟨rfl, rfl, trivial⟩, rfl⟩⟩

theorem marriedAt_spec (ps : List Per) (us : List Uni) (p y : Int) : FSpec env.P 13 [famLV ps us, .int .i64 p, .int .i64 y] (.own 3 1 ((marriedL ps us p y).map intLV)) := by
  refine FSpec_of_code env_ok (fn := Try.f13) Try.func13 rfl Try.call13 _ _ ?_
  ((repeat ((conv => whnf); first | refine brT ?_ | refine brF ?_)); conv => whnf)
  refine ⟨_, l1Has_spec ps us p, ?_⟩
  ((repeat ((conv => whnf); first | refine brT ?_ | refine brF ?_)); conv => whnf)
  (refine ⟨fun h => ?_, fun h => ?_⟩ <;> rw [h])
  · rw [notB_t] at h
    have e : marriedL ps us p y = [] := by unfold marriedL; rw [h]
    rw [e]
    ((repeat ((conv => whnf); first | refine brT ?_ | refine brF ?_)); conv => whnf)
    exact ⟨by decide, rfl, List.nodup_nil⟩
  · rw [notB_f] at h
    obtain ⟨p0, pl, hok⟩ := hasP_lt h
    have hu := (famOk_parts hok).2.1
    have e : marriedL ps us p y = othersTo (keepAt ps y) p us us.length := by unfold marriedL; rw [h]
    rw [e]
    ((repeat ((conv => whnf); first | refine brT ?_ | refine brF ?_)); conv => whnf)
    intro hn
    ((repeat ((conv => whnf); first | refine brT ?_ | refine brF ?_)); conv => whnf)
    refine loop_rule (α := Nat) (fun k => [(18, .undef), (22, .int .i64 (k : Int)), (7, .hs 1 ((othersTo (keepAt ps y) p us k).map intLV).length)]) (fun k => [.box (famLV ps us), .arr 3 1 ((othersTo (keepAt ps y) p us k).map intLV)])
      (fun k => us.length - k) (fun k => k ≤ us.length) 0 (Nat.zero_le _) ?_ ?_
    · refine ⟨?_, ⟨rfl, rfl, trivial⟩, rfl, rfl⟩
      ((repeat ((conv => whnf); refine ⟨rfl, ?_⟩)); trivial)
    intro k hk0
    ((repeat ((conv => whnf); first | refine brT ?_ | refine brF ?_)); conv => whnf)
    (refine ⟨fun h1 => ?_, fun h1 => ?_⟩ <;> rw [h1])
    · have hlt : k < us.length := by rw [ltI_t] at h1; simp at h1; omega
      have hs := othersTo_succ (keepAt ps y) p us hlt
      have hl := othersTo_len (keepAt ps y) p us k
      have hl1 := othersTo_len (keepAt ps y) p us (k + 1)
      have e : LV.int .i64 (IntKind.i64.wrap ((k : Int) + 1)) = LV.int .i64 ((k + 1 : Nat) : Int) := step_i hlt (by unfold Go.maxLen; omega)
      obtain ⟨hin, hy⟩ := uni_of hok hlt
      have hend := l1End_spec ps us us[k] hin hy
      ((repeat ((conv => whnf); first | refine brT ?_ | refine brF ?_)); conv => whnf)
      refine ⟨k, us[k].lv, rfl, by simp [hlt], rfl, ?_⟩
      ((repeat ((conv => whnf); first | refine brT ?_ | refine brF ?_)); conv => whnf)
      refine ⟨_, l1Other_spec us[k] p, ?_⟩
      generalize us[k] = u at hs hend
      cases he : endO ps u <;> rw [he] at hend
      all_goals
        ((repeat' (((repeat ((conv => whnf); first | refine brT ?_ | refine brF ?_)); conv => whnf); first | (refine And.intro ?_ ?_ <;> (intro h; rw [h]; revert h; intro _)) | (refine Exists.intro true (And.intro (a := drawB _ _ = true) (by kernel_rfl) ?_)) | (refine Exists.intro _ (And.intro (hend) ?_)))); all_goals ((repeat ((conv => whnf); first | refine brT ?_ | refine brF ?_)); conv => whnf))
      all_goals
        first
        | (have e1 : othersTo (keepAt ps y) p us (k + 1) = othersTo (keepAt ps y) p us k ++ [otherV p u] := by { rw [hs, other_eq2]; simp_all [keepAt, lasts, notB] }
           have e2 : ((othersTo (keepAt ps y) p us k).map intLV ++ [LV.int .i64 (otherV p u)]) = (othersTo (keepAt ps y) p us (k + 1)).map intLV := by { rw [e1, List.map_append]; rfl }
           have e3 : LV.hs 1 ((othersTo (keepAt ps y) p us k).map intLV ++ [LV.int .i64 (otherV p u)]).length = LV.hs 1 ((othersTo (keepAt ps y) p us (k + 1)).map intLV).length := by rw [e2]
           have m1 : ((othersTo (keepAt ps y) p us k).map intLV ++ [LV.int .i64 (otherV p u)]).length ≤ Go.maxLen := by { rw [e2]; unfold Go.maxLen; simp; omega }
           have m2 : ((othersTo (keepAt ps y) p us k).map intLV ++ [LV.int .i64 (otherV p u)]).length * 8 ≤ 140737488355328 := by { rw [e2]; simp; omega }
           refine ⟨rfl, rfl, m1, m2, ?_⟩
           ((repeat ((conv => whnf); first | refine brT ?_ | refine brF ?_)); conv => whnf)
           refine round_endR [.old 0, .old 4] (k + 1) hlt (by omega) ⟨?_, ⟨rfl, rfl, rfl, congrArg (Blk.arr 3 1) e2, trivial⟩, rfl⟩
           repeat ((conv => whnf); first | refine ⟨rfl, e, ?_⟩ | refine ⟨rfl, e3, ?_⟩ | refine ⟨rfl, rfl, ?_⟩)
           trivial)
        | (have e1 : othersTo (keepAt ps y) p us (k + 1) = othersTo (keepAt ps y) p us k := by { rw [hs, other_eq2]; simp_all [keepAt, lasts, notB] }
           have e3 : LV.hs 1 ((othersTo (keepAt ps y) p us k).map intLV).length = LV.hs 1 ((othersTo (keepAt ps y) p us (k + 1)).map intLV).length := by rw [e1]
           refine round_endR [.old 0, .old 1] (k + 1) hlt (by omega) ⟨?_, ⟨rfl, rfl, rfl, congrArg (Blk.arr 3 1) (by rw [e1]), trivial⟩, rfl⟩
           repeat ((conv => whnf); first | refine ⟨rfl, e, ?_⟩ | refine ⟨rfl, e3, ?_⟩ | refine ⟨rfl, rfl, ?_⟩)
           trivial)
    · have h3 : k = us.length := by rw [ltI_f] at h1; simp at h1; omega
      subst h3
      ((repeat ((conv => whnf); first | refine brT ?_ | refine brF ?_)); conv => whnf)
      exact ⟨rfl, rfl, rfl, rfl, by simp⟩

theorem law_marriedAt (ps : List Per) (us : List Uni) (p y : Int) (hf : FamOK ps us) : FSpec env.P 3 [famLV ps us, .int .i64 p, .int .i64 y] (.bool true) := by
  refine FSpec_of_code (E := env.x [15, 14, 18, 19] 0) env_ok.x (fn := Try.f3) Try.func3 rfl Try.call3 _ _ ?_
  ((repeat ((conv => whnf); first | refine brT ?_ | refine brF ?_)); conv => whnf)
  refine ⟨_, szFamily_spec ps us _, ?_⟩
  ((repeat ((conv => whnf); first | refine brT ?_ | refine brF ?_)); conv => whnf)
  (refine ⟨fun h => ?_, fun h => ?_⟩ <;> rw [h])
  · ((repeat ((conv => whnf); first | refine brT ?_ | refine brF ?_)); conv => whnf); exact fin rfl
  rw [ltI_f] at h
  obtain ⟨p1, u1, s1⟩ := szFam_ok (by omega) (by omega) hf h
  have lp := marriedL_len ps us p y
  ((repeat ((conv => whnf); first | refine brT ?_ | refine brF ?_)); conv => whnf)
  refine ⟨[], _, _, _, _, toFamily_hm ps us p1 u1, rfl, rfl, rfl, trivial, ?_⟩
  ((repeat ((conv => whnf); first | refine brT ?_ | refine brF ?_)); conv => whnf)
  refine ⟨rfl, ?_⟩
  ((repeat ((conv => whnf); first | refine brT ?_ | refine brF ?_)); conv => whnf)
  refine ⟨rfl, ?_⟩
  ((repeat ((conv => whnf); first | refine brT ?_ | refine brF ?_)); conv => whnf)
  refine ⟨_, marriedAt_spec ps us p y, ?_⟩
  rw [flat_ints]
  ((repeat ((conv => whnf); first | refine brT ?_ | refine brF ?_)); conv => whnf)
  refine ⟨[], _, _, _, _, toFamily_hm ps us p1 u1, rfl, rfl, rfl, trivial, ?_⟩
  ((repeat ((conv => whnf); first | refine brT ?_ | refine brF ?_)); conv => whnf)
  refine ⟨[], _, _, _, _, marriedAt_h ps us p y, rfl, ?_⟩
  ((repeat ((conv => whnf); first | refine brT ?_ | refine brF ?_)); conv => whnf)
  refine ⟨rfl, ?_⟩
  ((repeat ((conv => whnf); first | refine brT ?_ | refine brF ?_)); conv => whnf)
  refine ⟨rfl, ?_⟩
  ((repeat ((conv => whnf); first | refine brT ?_ | refine brF ?_)); conv => whnf)
  refine ⟨rfl, rfl, ⟨rfl, flats_ints _, trivial⟩, ?_⟩
  ((repeat ((conv => whnf); first | refine brT ?_ | refine brF ?_)); conv => whnf)
  refine ⟨rfl, ?_⟩
  ((repeat ((conv => whnf); first | refine brT ?_ | refine brF ?_)); conv => whnf)
  refine ⟨_, eqIntS_spec _ _, ?_⟩
  rw [eqIntS_refl]
  ((repeat ((conv => whnf); first | refine brT ?_ | refine brF ?_)); conv => whnf)
  rw [show notB true = false by simp [notB]]
  ((repeat ((conv => whnf); first | refine brT ?_ | refine brF ?_)); conv => whnf)
  refine ⟨true, by kernel_rfl, ?_⟩
  ((repeat ((conv => whnf); first | refine brT ?_ | refine brF ?_)); conv => whnf)
  refine ⟨_, toFamily_spec ps us p1 u1, ?_⟩
  ((repeat ((conv => whnf); first | refine brT ?_ | refine brF ?_)); conv => whnf)
  refine ⟨rfl, ?_⟩
  ((repeat ((conv => whnf); first | refine brT ?_ | refine brF ?_)); conv => whnf)
  refine ⟨rfl, ?_⟩
  ((repeat ((conv => whnf); first | refine brT ?_ | refine brF ?_)); conv => whnf)
  refine ⟨_, eqFamily_spec ps ps us us, ?_⟩
  rw [eqFam_refl]
  ((repeat ((conv => whnf); first | refine brT ?_ | refine brF ?_)); conv => whnf)
  rw [show notB true = false by simp [notB]]
  ((repeat ((conv => whnf); first | refine brT ?_ | refine brF ?_)); conv => whnf)
  refine ⟨[3, 4], _, _, _, _, markFamily_hm ps us 1 (by omega), rfl, rfl, rfl, trivial, ?_⟩
  ((repeat ((conv => whnf); first | refine brT ?_ | refine brF ?_)); conv => whnf)
  rw [show ltI ((1 + 6 * ps.length + 4 * us.length : Nat) : Int) 0 = false by rw [ltI_f]; omega]
  ((repeat ((conv => whnf); first | refine brT ?_ | refine brF ?_)); conv => whnf)
  refine ⟨rfl, ?_⟩
  ((repeat ((conv => whnf); first | refine brT ?_ | refine brF ?_)); conv => whnf)
  refine ⟨_, eqIntS_spec _ _, ?_⟩
  rw [eqIntS_refl]
  ((repeat ((conv => whnf); first | refine brT ?_ | refine brF ?_)); conv => whnf)
  rw [show notB true = false by simp [notB]]
  ((repeat ((conv => whnf); first | refine brT ?_ | refine brF ?_)); conv => whnf)
  have hx : ∀ xs : List Int, xs.length ≤ 60 → (1 : Int) + (xs.length : Int) ≤ 61 := fun xs h => by omega
  refine ⟨[6], _, _, _, _, markIntS_spec (marriedL ps us p y) _ rfl 1 (by omega) (by have := hx _ lp; omega), rfl, rfl, rfl, trivial, ?_⟩
  ((repeat ((conv => whnf); first | refine brT ?_ | refine brF ?_)); conv => whnf)
  refine ⟨by simp [marks_len], ?_⟩
  ((repeat ((conv => whnf); first | refine brT ?_ | refine brF ?_)); conv => whnf)
  refine ⟨_, heldIntS_spec 1 (marriedL ps us p y).length (by omega) (by have := hx _ lp; omega), ?_⟩
  ((repeat ((conv => whnf); first | refine brT ?_ | refine brF ?_)); conv => whnf)
  rw [show ltI (1 + ((marriedL ps us p y).length : Int)) 0 = false by rw [ltI_f]; omega]
  ((repeat ((conv => whnf); first | refine brT ?_ | refine brF ?_)); conv => whnf)
  rw [show notB (eqI (1 + ((marriedL ps us p y).length : Int)) (1 + ((marriedL ps us p y).length : Int))) = false by simp [notB, eqI_refl]]
  ((repeat ((conv => whnf); first | refine brT ?_ | refine brF ?_)); conv => whnf)
  refine ⟨[], _, _, _, _, toFamily_hm ps us p1 u1, rfl, rfl, rfl, trivial, ?_⟩
  ((repeat ((conv => whnf); first | refine brT ?_ | refine brF ?_)); conv => whnf)
  refine ⟨[], _, _, _, _, marriedAt_h ps us p y, rfl, ?_⟩
  ((repeat ((conv => whnf); first | refine brT ?_ | refine brF ?_)); conv => whnf)
  refine ⟨rfl, ?_⟩
  ((repeat ((conv => whnf); first | refine brT ?_ | refine brF ?_)); conv => whnf)
  refine ⟨rfl, ?_⟩
  ((repeat ((conv => whnf); first | refine brT ?_ | refine brF ?_)); conv => whnf)
  refine ⟨rfl, rfl, ⟨rfl, flats_ints _, trivial⟩, ?_⟩
  ((repeat ((conv => whnf); first | refine brT ?_ | refine brF ?_)); conv => whnf)
  refine ⟨rfl, ?_⟩
  ((repeat ((conv => whnf); first | refine brT ?_ | refine brF ?_)); conv => whnf)
  refine ⟨_, eqIntS_spec _ _, ?_⟩
  rw [eqIntS_refl]
  ((repeat ((conv => whnf); first | refine brT ?_ | refine brF ?_)); conv => whnf)
  rw [show notB true = false by simp [notB]]
  ((repeat ((conv => whnf); first | refine brT ?_ | refine brF ?_)); conv => whnf)
  refine ⟨by simp [marks_len], ?_⟩
  ((repeat ((conv => whnf); first | refine brT ?_ | refine brF ?_)); conv => whnf)
  refine ⟨_, heldIntS_spec 1 (marriedL ps us p y).length (by omega) (by have := hx _ lp; omega), ?_⟩
  ((repeat ((conv => whnf); first | refine brT ?_ | refine brF ?_)); conv => whnf)
  rw [show ltI (1 + ((marriedL ps us p y).length : Int)) 0 = false by rw [ltI_f]; omega]
  ((repeat ((conv => whnf); first | refine brT ?_ | refine brF ?_)); conv => whnf)
  rw [show notB (eqI (1 + ((marriedL ps us p y).length : Int)) (1 + ((marriedL ps us p y).length : Int))) = false by simp [notB, eqI_refl]]
  ((repeat ((conv => whnf); first | refine brT ?_ | refine brF ?_)); conv => whnf)
  exact fin rfl
end Go.Proofs.Ytgkjafmmekjjlaa


set_option linter.unusedVariables false
set_option linter.unusedSimpArgs false
/-! slices.Repeat of one number, walked at this program. -/
namespace Go.Proofs.SB
open Go.RowKit
set_option maxHeartbeats 2000000
set_option maxRecDepth 100000
theorem mulOne (n : Nat) (hn : n ≤ 40) (w : World) : Calls Try.prog 186 #[.int .u64 1, .int .u64 n] w fun e w' => e = .returned (.tuple #[.int .u64 0, .int .u64 n]) ∧ w' = w := by
  have a1 : bits .and .u64 1 4294967295 = 1 := by decide
  have a2 : bits .and .u64 (n : Int) 4294967295 = n := by
    have h := bits_and_u64_nat n 4294967295 (by omega) (by omega)
    rw [show ((4294967295 : Nat) : Int) = 4294967295 from rfl] at h
    rw [h]
    congr 1
    have : n &&& 2 ^ 32 - 1 = n % 2 ^ 32 := Nat.and_two_pow_sub_one_eq_mod n 32
    rw [show (4294967295 : Nat) = 2 ^ 32 - 1 from rfl, this]
    exact Nat.mod_eq_of_lt (by omega)
  have a3 : (n : Int) / 4294967296 = 0 := by omega
  have a4 : bits .and .u64 0 4294967295 = 0 := by decide
  go_enter Try.func186, Try.ntmps186
  go_wp2
  go_ret2
  exact ⟨rfl, rfl⟩
theorem mulOne' (n : Nat) (hn : n ≤ 40) (w : World) : Calls Try.prog 166 #[.int .u64 1, .int .u64 n] w fun e w' => e = .returned (.tuple #[.int .u64 0, .int .u64 n]) ∧ w' = w := by
  go_enter Try.func166, Try.ntmps166
  go_wp2_with (go_at_call 186; refine (mulOne n hn _).mono ?_; rintro e w' ⟨rfl, rfl⟩)
  go_ret2
  exact ⟨rfl, rfl⟩
theorem wrap64n (n : Nat) (hn : n ≤ 40) : IntKind.i64.wrap (n : Int) = n := by rw [IntKind.wrap_i64]; omega
theorem wrapU64n (n : Nat) (hn : n ≤ 40) : IntKind.u64.wrap (n : Int) = n := by rw [IntKind.wrap_u64]; omega
theorem intInfo : (Try.prog.info? 3).map (fun i => (i.zero, i.size, i.bytes)) = some (some (.int .i64 0), 1, 8) := by kernel_rfl
theorem intSize : (Try.prog.info? 3).map (·.size) = some 1 := by kernel_rfl
/-- So many of the number stand in a row, zeros behind them. -/
def part (c : Int) (n k : Nat) : List Value := List.replicate k (.int .i64 c) ++ List.replicate (n - k) (.int .i64 0)
theorem part_len {c : Int} {n k : Nat} (h : k ≤ n) : (part c n k).length = n := by simp [part]; omega
theorem part_start (c : Int) (n : Nat) : part c n 0 = List.replicate n (.int .i64 0) := by simp [part]
theorem part_all (c : Int) (n : Nat) : part c n n = List.replicate n (.int .i64 c) := by simp [part]
theorem part_splice {c : Int} {n k m : Nat} (h : k + m ≤ n) : splice (part c n k) k (List.replicate m (.int .i64 c)) = part c n (k + m) := by
  unfold splice part
  rw [List.take_append_of_le_length (by simp), List.take_of_length_le (by simp), List.length_replicate, List.drop_append, List.drop_eq_nil_of_le (by simp), List.length_replicate, List.nil_append, List.drop_replicate, ← List.append_assoc, List.replicate_append_replicate]
  congr 2
  omega
theorem part_get {c : Int} {n k j : Nat} (h : j < k) : (part c n k)[j]? = some (.int .i64 c) := by
  unfold part
  rw [List.getElem?_append_left (by simp [h]), List.getElem?_replicate, if_pos h]
theorem made_zero (n : Nat) : madeCells #[(.int .i64 0 : Value)] n = (List.replicate n (.int .i64 0 : Value)).toArray := by
  refine Array.ext (by simp [madeCells]) fun i h1 h2 => ?_
  simp [madeCells, Nat.mod_one]
theorem addr0 (b j : Nat) : (⟨b, 0, none⟩ : Addr).add j = ⟨b, j, none⟩ := by unfold Addr.add; split <;> simp_all
/-- What one copy of the row's head behind itself does. -/
theorem copyStep {c : Int} {n k m : Nat} {g B : Nat} {w w0 : World} (ad : Addr) (dl dc sl sc : Nat) (new : w.heap[g]? = some (.cells (part c n k).toArray 3 (0, 0))) (hb : Below B w0 w ∧ w0.drawn ≤ w.drawn) (hB : B ≤ g) (hk : k + m ≤ n) (hm : m = Nat.min sl dl)
    (src : ∀ j, j < m → w.cell? (ad.add j) = some (.int .i64 c)) :
    ∃ w', (Builtin.copy_ #[27, 27] 3 #[.slice (some ⟨g, k, none⟩) dl dc, .slice (some ad) sl sc]).run Try.prog w = .ok (goInt m) w' ∧ w'.heap[g]? = some (.cells (part c n (k + m)).toArray 3 (0, 0)) ∧ Below B w0 w' ∧ w0.drawn ≤ w'.drawn := by
  have hl : (List.replicate m (Value.int .i64 c)).length = m := by simp
  have c0 := run_copy_row (P := Try.prog) w 27 27 3 3 g k dl dc ad sl sc (part c n k).toArray 3 (List.replicate m (.int .i64 c)) Try.underlying27 intSize new (by rw [hl, hm])
    (fun j v hv => by
      rw [List.getElem?_replicate] at hv
      split at hv
      · rename_i h
        simp only [Option.some.injEq] at hv
        subst hv; exact src j h
      · cases hv) (by rw [List.size_toArray, part_len (by omega), hl]; omega) (by intro v hv; rw [(List.mem_replicate.1 hv).2]; rfl)
  rw [hl] at c0
  refine ⟨_, c0, ?_, below_setRow hb.1 hB _, hb.2⟩
  rw [setRow_heap w g _ _ _ _ new, ← part_splice hk]
  unfold splice
  simp
theorem repeatRun (w : World) (ad : Addr) (cap : Nat) (c : Int) (n : Nat) (h1 : 1 ≤ n) (hn : n ≤ 40) (hcell : w.cell? ad = some (.int .i64 c)) (hlt : ad.block < w.heap.size) :
    Calls Try.prog 140 #[.slice (some ad) 1 cap, .int .i64 n] w fun e w' => e = .returned (.slice (some ⟨w.heap.size, 0, none⟩) n n) ∧
      w'.heap[w.heap.size]? = some (.cells (List.replicate n (Value.int .i64 c)).toArray 3 (0, 0)) ∧ Below w.heap.size w w' ∧ w.drawn ≤ w'.drawn := by
  have e1 := wrap64n n hn
  have e2 := wrapU64n n hn
  have old : (w.alloc (.cells (List.replicate n (.int .i64 0 : Value)).toArray 3)).cell? ad = some (.int .i64 c) := by
    rw [← hcell]; exact World.cell?_alloc_some _ _ _ (by rw [hcell]; rfl)
  have new : (w.alloc (.cells (List.replicate n (.int .i64 0 : Value)).toArray 3)).heap[w.heap.size]? = some (.cells (part c n 0).toArray 3 (0, 0)) := by
    rw [part_start]; unfold World.alloc; exact Array.getElem?_push_size ..
  have b0 : Below w.heap.size w (w.alloc (.cells (List.replicate n (.int .i64 0 : Value)).toArray 3)) ∧ w.drawn ≤ (w.alloc (.cells (List.replicate n (.int .i64 0 : Value)).toArray 3)).drawn := ⟨(Below.refl _ w).alloc (Nat.le_refl _) _, Nat.le_refl _⟩
  go_enter Try.func140, Try.ntmps140
  go_wp2_with (go_at_call 166; refine (mulOne' n hn _).mono ?_; rintro e w' ⟨rfl, rfl⟩)
  rw [run_make_row' 27 3 (.int .i64 0) 8 Try.underlying27 intInfo rfl _ _ n (by omega) (by omega)]
  simp only [Result.andThen]
  rw [Oper.upon_value]
  rw [made_zero]
  generalize w'.alloc (.cells (List.replicate n (.int .i64 0 : Value)).toArray 3) = W at old new b0 ⊢
  obtain ⟨W1, c0, new1, b1⟩ := copyStep (m := 1) ad n n 1 cap new b0 (Nat.le_refl _) (by omega) (Nat.min_eq_left h1).symm (fun j hj => by
    obtain rfl : j = 0 := by omega
    simpa [Addr.add] using old)
  go_wp2
  rw [Nat.zero_add] at new1
  clear c0 new b0 old
  go_loopg [8] n (fun g x wr => ∃ k : Nat, x = .int .i64 k ∧ 1 ≤ k ∧ k ≤ n ∧ n - k ≤ g ∧ Hid (wr.heap[w'.heap.size]? = some (.cells (part c n k).toArray 3 (0, 0))) ∧ Below w'.heap.size w' wr ∧ w'.drawn ≤ wr.drawn)
  case atStart => exact ⟨1, rfl, Nat.le_refl _, h1, by omega, new1, b1⟩
  case round =>
    obtain ⟨k, rfl, k1, kn, kg, new2, b2⟩ := hrel
    have new2 := new2.out
    by_cases hlt : k < n
    · have hltz : (k : Int) < (n : Int) := by omega
      have hnk : ¬ n = k := by omega
      obtain ⟨m, hm⟩ : ∃ m, m = Nat.min k (n - k) := ⟨_, rfl⟩
      have hm1 : m ≤ k := by rw [hm]; exact Nat.min_le_left ..
      have hm2 : m ≤ n - k := by rw [hm]; exact Nat.min_le_right ..
      have hm3 : 1 ≤ m := by rw [hm]; exact Nat.le_min.2 ⟨k1, by omega⟩
      obtain ⟨W2, c2, new3, b3⟩ := copyStep (w := wr.drew) (m := m) ⟨w'.heap.size, 0, none⟩ (n - k) (n - k) k n new2 ⟨Below.drew b2.1, Nat.le_trans b2.2 (Nat.le_succ _)⟩ (Nat.le_refl _) (by omega) hm (fun j hj => by
        rw [addr0]
        show wr.cell? ⟨w'.heap.size, j, none⟩ = _
        simp only [World.cell?, new2]
        simpa using part_get (c := c) (n := n) (k := k) (j := j) (by omega))
      have w3 : IntKind.i64.wrap ((k : Int) + (m : Int)) = ((k + m : Nat) : Int) := by rw [IntKind.wrap_i64]; omega
      clear hm
      go_wp2
      go_region
      go_wp2
      go_roundg (n - (k + m))
      case measure => omega
      case rel => exact ⟨k + m, by simp, by omega, by omega, Nat.le_refl _, new3, b3⟩
    · have hltz : ¬ (k : Int) < (n : Int) := by omega
      obtain rfl : k = n := by omega
      go_wp2
      go_ret
      exact ⟨rfl, by rw [part_all] at new2; simpa using new2, b2⟩
end Go.Proofs.SB


namespace Go.Proofs.Ytgkjafmmekjjlaa
open Go.Lg Go.RowKit
set_option maxHeartbeats 1600000
set_option maxRecDepth 10000
set_option linter.unusedVariables false
set_option linter.unusedSimpArgs false

theorem sim_none {X : Nat → Prop} {B : Nat} {w : World} {pl : Nat → PV} (g : Go.Lg.Good X B ⟨w, [], pl⟩ [] pl w) : Sim X B ⟨w, [], pl⟩ ⟨[], []⟩ ⟨#[], []⟩ w pl :=
  ⟨g, rfl, rfl, fun t x h => by simp at h, ⟨Nat.le_refl _, fun _ _ _ => rfl, fun _ _ h => h, fun _ _ _ h => h, fun _ _ _ _ h => h⟩⟩
theorem RCs_ints (ρ : Ctx) (c : Int) : ∀ n, RCs ρ (List.replicate n (LV.int .i64 c)) (List.replicate n (Value.int .i64 c))
  | 0 => by simp only [List.replicate, RCs]
  | n + 1 => by
    simp only [List.replicate, RCs]
    exact ⟨[.int .i64 c], List.replicate n (.int .i64 c), rfl, by simp only [RC], RCs_ints ρ c n⟩
/-- slices.Repeat of one number. -/
theorem repeat_h (c : Int) (n : Nat) (h1 : 1 ≤ n) (hn : n ≤ 40) :
    HSpec env.P 140 [.sl [.int .i64 c], .int .i64 (n : Int)] [] (.hs 0 (List.replicate n (LV.int .i64 c)).length) [.arr 3 1 (List.replicate n (LV.int .i64 c))] := by
  unfold HSpec
  refine ⟨Try.call140, fun X B w vs pl g hsz hargs => ?_⟩
  obtain ⟨v0, v1, rfl⟩ : ∃ v0 v1, vs = #[v0, v1] := by
    obtain ⟨vl⟩ := vs
    match vl, hsz with
    | [a, b], _ => exact ⟨a, b, rfl⟩
  have a0 := hargs 0 _ v0 rfl rfl
  have a1 := hargs 1 _ v1 rfl rfl
  simp only [RT, RT1, RC, RCs] at a0 a1
  simp only [List.cons.injEq, and_true] at a0 a1
  obtain ⟨a, cap, rfl, hc1, hc2, hz | ⟨ad, es, k, rfl, hb, ho, ⟨c1, c2, rfl, rfl, rfl⟩, hcells, hk⟩⟩ := a0
  · cases hz
  subst a1
  have hcell : w.cell? ad = some (.int .i64 c) := by
    have := hcells.2 0 (.int .i64 c) (by simp)
    change w.cell? _ = _ at this
    obtain ⟨blk, off, spot⟩ := ad
    have hs : spot = none := hcells.1
    subst hs
    simpa using this
  refine (SB.repeatRun w ad cap c n h1 hn hcell hb).mono ?_
  rintro e w' ⟨rfl, hrow, hbel0, hinc⟩
  have hbel : Go.Lg.Below w.heap.size w w' := ⟨hbel0.os, hbel0.tape, hbel0.output, hbel0.size, hbel0.block, hinc⟩
  have hl : (List.replicate n (LV.int .i64 c)).length = n := by simp
  have hown : w'.ownsRow B 3 1 (.slice (some ⟨w.heap.size, 0, none⟩) (List.replicate n (LV.int .i64 c)).length n) (List.replicate n (LV.int .i64 c)).length (List.replicate n (Value.int .i64 c)) := by
    rw [hl]
    exact ⟨by simp, .inr ⟨_, n, _, rfl, g.base.1, hrow, Nat.le_refl _, by unfold Go.maxLen; omega, by simp, by simp [List.take_replicate]⟩⟩
  obtain ⟨pl', s', r', le'⟩ := sim_newArr (sim_none g) (e := 3) (k := 1) (cap := n) (xs := List.replicate n (LV.int .i64 c)) (es := List.replicate n (Value.int .i64 c)) hbel hown (RCs_ints _ c n)
    (by intro x hx; rw [(List.mem_replicate.1 hx).2]; rfl) (by omega)
  rw [hl] at r'
  refine ⟨_, pl', rfl, s'.good, ?_, le'⟩
  rw [hl]; exact r'
end Go.Proofs.Ytgkjafmmekjjlaa

