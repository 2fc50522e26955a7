/- Contracts of functions of the program and of its model, told over readings. -/
import Derived.Test.YtfdjeflnjciloaaBM1
import Derived.Test.YtfdjeflnjciloaaBT6
namespace Go.Proofs.Ytfdjeflnjciloaa
open Go.Lg
set_option maxHeartbeats 1600000
set_option maxRecDepth 10000
set_option linter.unusedVariables false
set_option linter.unusedSimpArgs false

/-! A row whose element i is written field by field. -/
section
variable {L : List LV} {i : Nat}
theorem fw_get (h : i < L.length) (fs : List LV) : getP (.st (L.set i (.st fs))) [i] = some (.st fs) := by simp [getP, h]
theorem fw_get2 (h : i < L.length) {fs : List LV} {f : Nat} {x : LV} (hx : fs[f]? = some x) : getP (.st (L.set i (.st fs))) [i, f] = some x := by simp [getP, h, hx]
theorem fw_set (h : i < L.length) {fs : List LV} {f : Nat} {x : LV} (hx : fs[f]? = some x) (v : LV) :
    (match (L.set i (.st fs))[i]? with | some z => (L.set i (.st fs)).set i (setP z [f] v) | none => L.set i (.st fs)) = L.set i (.st (fs.set f v)) := by
  have : (L.set i (.st fs))[i]? = some (.st fs) := by simp [h]
  rw [this]
  simp only [setP, hx]
  cases x <;> simp [List.set_set]
theorem fw_self (h : i < L.length) {fs : List LV} (hx : L[i]? = some (.st fs)) : L = L.set i (.st fs) := by
  apply List.ext_getElem?
  intro j
  rw [List.getElem?_set]
  split
  · rename_i e; subst e; exact hx
  · rfl
end

def markPer (k : Nat) : Per := ⟨mText k, (k : Int) + 1, (k : Int) + 2, (k : Int) + 3, (k : Int) + 4, (k : Int) + 5⟩
def markPers (k : Nat) : Nat → List Per
  | 0 => []
  | n + 1 => markPers k n ++ [markPer (k + 6 * n)]
theorem markPers_len (k : Nat) : ∀ n, (markPers k n).length = n
  | 0 => rfl
  | n + 1 => by simp [markPers, markPers_len k n]
def rowPM (k : Nat) (ps : List Per) (i : Nat) : List LV := (markPers k i ++ ps.drop i).map Per.lv
theorem rowPM_len {k : Nat} {ps : List Per} {i : Nat} (h : i ≤ ps.length) : (rowPM k ps i).length = ps.length := by simp [rowPM, markPers_len]; omega
theorem rowPM_get {k : Nat} {ps : List Per} {i : Nat} (h : i < ps.length) : (rowPM k ps i)[i]? = some ps[i].lv := by
  unfold rowPM
  rw [List.getElem?_map, List.getElem?_append_right (by rw [markPers_len]; exact Nat.le_refl _), markPers_len, Nat.sub_self, List.getElem?_drop, Nat.add_zero, List.getElem?_eq_getElem h]
  rfl
theorem rowPM_set {k : Nat} {ps : List Per} {i : Nat} (h : i < ps.length) : (rowPM k ps i).set i (markPer (k + 6 * i)).lv = rowPM k ps (i + 1) := by
  unfold rowPM
  rw [List.drop_eq_getElem_cons h, List.map_append, List.map_cons, List.set_append_right _ _ (by simp [markPers_len])]
  simp [markPers, markPers_len]

theorem markPersonS_spec (ps : List Per) (n : Nat) (hn : n = (ps.map Per.lv).length) (k : Nat) (h1 : k + 6 * ps.length ≤ 2305843009213693952) :
    HSpec env.P 131 [.hs 0 n, .int .i64 (k : Int)] [.arr 87 6 (ps.map Per.lv)] (.int .i64 ((k + 6 * ps.length : Nat) : Int)) [.arr 87 6 ((markPers k ps.length).map Per.lv)] := by
  subst hn
  refine HSpec_of_code (E := env.x [] 1) env_ok.x (fn := Try.f131) Try.func131 rfl Try.call131 _ _ _ _ ?_
  ((repeat ((conv => whnf); first | refine brT ?_ | refine brF ?_)); conv => whnf)
  refine loop_rule (α := Nat) (fun i => [(5, .int .i64 (i : Int)), (1, .int .i64 ((k + 6 * i : Nat) : Int)), (0, .hs 0 (rowPM k ps i).length)]) (fun i => [.arr 87 6 (rowPM k ps i)]) (fun i => ps.length - i) (fun i => i ≤ ps.length) 0 (Nat.zero_le _) ?_ ?_
  · have e0 : ps.map Per.lv = rowPM k ps 0 := by simp [rowPM, markPers]
    have e1 : LV.hs 0 (ps.map Per.lv).length = LV.hs 0 (rowPM k ps 0).length := by rw [e0]
    refine ⟨?_, ⟨congrArg (Blk.arr 87 6) e0, trivial⟩, rfl, rfl⟩
    ((repeat ((conv => whnf); first | refine ⟨e1, ?_⟩ | refine ⟨rfl, ?_⟩)); trivial)
  intro i hi
  have hl := rowPM_len (k := k) hi
  ((repeat ((conv => whnf); first | refine brT ?_ | refine brF ?_)); conv => whnf)
  refine ⟨rfl, fun hm => ?_⟩
  have hm' : ps.length ≤ Go.maxLen := by rw [← hl]; exact hm
  ((repeat ((conv => whnf); first | refine brT ?_ | refine brF ?_)); conv => whnf)
  (refine ⟨fun g1 => ?_, fun g1 => ?_⟩ <;> rw [g1])
  · have hlt : i < ps.length := by rw [ltI_t] at g1; omega
    have e := step_i hlt hm'
    have hiL : i < (rowPM k ps i).length := by omega
    have hg := rowPM_get (k := k) hlt
    have hset := rowPM_set (k := k) hlt
    have w0 : IntKind.i64.wrap (((k + 6 * i : Nat) : Int) + 1) = ((k + 6 * i : Nat) : Int) + 1 := wrap64 (by omega) (by omega)
    have w1 : IntKind.i64.wrap (((k + 6 * i : Nat) : Int) + 1 + 1) = ((k + 6 * i : Nat) : Int) + 2 := by rw [wrap64 (by omega) (by omega)]; omega
    have w2 : IntKind.i64.wrap (((k + 6 * i : Nat) : Int) + 2 + 1) = ((k + 6 * i : Nat) : Int) + 3 := by rw [wrap64 (by omega) (by omega)]; omega
    have w3 : IntKind.i64.wrap (((k + 6 * i : Nat) : Int) + 3 + 1) = ((k + 6 * i : Nat) : Int) + 4 := by rw [wrap64 (by omega) (by omega)]; omega
    have w4 : IntKind.i64.wrap (((k + 6 * i : Nat) : Int) + 4 + 1) = ((k + 6 * i : Nat) : Int) + 5 := by rw [wrap64 (by omega) (by omega)]; omega
    have w5 : IntKind.i64.wrap (((k + 6 * i : Nat) : Int) + 5 + 1) = ((k + 6 * (i + 1) : Nat) : Int) := by rw [wrap64 (by omega) (by omega)]; omega
    have hlen : ∀ x : LV, (rowPM k ps i).length = ((rowPM k ps i).set i x).length := fun x => by simp
    generalize ps[i] = p at hg hset
    generalize hK : ((k + 6 * i : Nat) : Int) = kk at w0 w1 w2 w3 w4 w5 ⊢
    generalize hN : mText (k + 6 * i) = nm
    have hmt := markText_spec (k + 6 * i) (by omega)
    rw [hK, hN] at hmt
    have hfin : (rowPM k ps i).set i (.st [.str nm, .int .i64 (kk + 1), .int .i64 (kk + 2), .int .i64 (kk + 3), .int .i64 (kk + 4), .int .i64 (kk + 5)]) = rowPM k ps (i + 1) := by
      rw [← hset]; unfold markPer Per.lv; rw [hK, hN]
    generalize rowPM k ps i = L at hl hm hiL hg hlen hfin g1 ⊢
    have hgp : getP (.st L) [i] = some (.st [LV.str p.name, LV.int .i64 p.sex, LV.int .i64 p.father, LV.int .i64 p.mother, LV.int .i64 p.born, LV.int .i64 p.died]) := by simp [getP, hg, Per.lv]
    have hgp0 : getP (.st L) [i, 0] = some (.str p.name) := by simp [getP, hg, Per.lv]
    ((repeat ((conv => whnf); first | refine brT ?_ | refine brF ?_)); conv => whnf)
    refine ⟨_, hmt, ?_⟩
    ((repeat ((conv => whnf); first | refine brT ?_ | refine brF ?_)); conv => whnf)
    refine ⟨rfl, rfl, i, rfl, hiL, ?_⟩
    ((repeat ((conv => whnf); first | refine brT ?_ | refine brF ?_)); conv => whnf)
    refine ⟨rfl, by simp, [LV.str p.name, LV.int .i64 p.sex, LV.int .i64 p.father, LV.int .i64 p.mother, LV.int .i64 p.born, LV.int .i64 p.died], hgp, rfl, by simp, ?_⟩
    ((repeat ((conv => whnf); first | refine brT ?_ | refine brF ?_)); conv => whnf)
    refine ⟨rfl, i, [0], .str p.name, rfl, hgp0, rfl, rfl, rfl, L.set i (.st [.str nm, .int .i64 p.sex, .int .i64 p.father, .int .i64 p.mother, .int .i64 p.born, .int .i64 p.died]), by rw [hg]; rfl, ?_⟩
    ((repeat ((conv => whnf); first | refine brT ?_ | refine brF ?_)); conv => whnf)
    rw [w0]
    refine ⟨hlen _, rfl, i, rfl, by simpa using hiL, ?_⟩
    ((repeat ((conv => whnf); first | refine brT ?_ | refine brF ?_)); conv => whnf)
    refine ⟨hlen _, by simp, _, fw_get hiL _, rfl, by simp, ?_⟩
    ((repeat ((conv => whnf); first | refine brT ?_ | refine brF ?_)); conv => whnf)
    refine ⟨hlen _, i, [1], _, rfl, fw_get2 hiL rfl, rfl, rfl, rfl, _, fw_set hiL rfl (.int .i64 (kk + 1)), ?_⟩
    ((repeat ((conv => whnf); first | refine brT ?_ | refine brF ?_)); conv => whnf)
    rw [w1]
    refine ⟨hlen _, rfl, i, rfl, by simpa using hiL, ?_⟩
    ((repeat ((conv => whnf); first | refine brT ?_ | refine brF ?_)); conv => whnf)
    refine ⟨hlen _, by simp, _, fw_get hiL _, rfl, by simp, ?_⟩
    ((repeat ((conv => whnf); first | refine brT ?_ | refine brF ?_)); conv => whnf)
    refine ⟨hlen _, i, [2], _, rfl, fw_get2 hiL rfl, rfl, rfl, rfl, _, fw_set hiL rfl (.int .i64 (kk + 2)), ?_⟩
    ((repeat ((conv => whnf); first | refine brT ?_ | refine brF ?_)); conv => whnf)
    rw [w2]
    refine ⟨hlen _, rfl, i, rfl, by simpa using hiL, ?_⟩
    ((repeat ((conv => whnf); first | refine brT ?_ | refine brF ?_)); conv => whnf)
    refine ⟨hlen _, by simp, _, fw_get hiL _, rfl, by simp, ?_⟩
    ((repeat ((conv => whnf); first | refine brT ?_ | refine brF ?_)); conv => whnf)
    refine ⟨hlen _, i, [3], _, rfl, fw_get2 hiL rfl, rfl, rfl, rfl, _, fw_set hiL rfl (.int .i64 (kk + 3)), ?_⟩
    ((repeat ((conv => whnf); first | refine brT ?_ | refine brF ?_)); conv => whnf)
    rw [w3]
    refine ⟨hlen _, rfl, i, rfl, by simpa using hiL, ?_⟩
    ((repeat ((conv => whnf); first | refine brT ?_ | refine brF ?_)); conv => whnf)
    refine ⟨hlen _, by simp, _, fw_get hiL _, rfl, by simp, ?_⟩
    ((repeat ((conv => whnf); first | refine brT ?_ | refine brF ?_)); conv => whnf)
    refine ⟨hlen _, i, [4], _, rfl, fw_get2 hiL rfl, rfl, rfl, rfl, _, fw_set hiL rfl (.int .i64 (kk + 4)), ?_⟩
    ((repeat ((conv => whnf); first | refine brT ?_ | refine brF ?_)); conv => whnf)
    rw [w4]
    refine ⟨hlen _, rfl, i, rfl, by simpa using hiL, ?_⟩
    ((repeat ((conv => whnf); first | refine brT ?_ | refine brF ?_)); conv => whnf)
    refine ⟨hlen _, by simp, _, fw_get hiL _, rfl, by simp, ?_⟩
    ((repeat ((conv => whnf); first | refine brT ?_ | refine brF ?_)); conv => whnf)
    refine ⟨hlen _, i, [5], _, rfl, fw_get2 hiL rfl, rfl, rfl, rfl, _, fw_set hiL rfl (.int .i64 (kk + 5)), ?_⟩
    ((repeat ((conv => whnf); first | refine brT ?_ | refine brF ?_)); conv => whnf)
    have e5 : LV.hs 0 L.length = LV.hs 0 (rowPM k ps (i + 1)).length := by rw [hl, rowPM_len (by omega)]
    have e6 : LV.int .i64 (IntKind.i64.wrap (kk + 5 + 1)) = LV.int .i64 ((k + 6 * (i + 1) : Nat) : Int) := by rw [w5]
    refine round_end (i + 1) hlt (by omega) ⟨?_, ⟨congrArg (Blk.arr 87 6) hfin, trivial⟩, rfl, rfl⟩
    repeat ((conv => whnf); first | refine ⟨e, ?_⟩ | refine ⟨e6, ?_⟩ | refine ⟨e5, ?_⟩ | refine ⟨rfl, ?_⟩)
    trivial
  · have h3 : i = ps.length := by rw [ltI_f] at g1; omega
    subst h3
    ((repeat ((conv => whnf); first | refine brT ?_ | refine brF ?_)); conv => whnf)
    exact ⟨[.int .i64 ((k + 6 * ps.length : Nat) : Int)], rfl, rfl, .inl ⟨⟨rfl, trivial⟩, ⟨by simp [rowPM], trivial⟩, rfl, rfl⟩⟩
end Go.Proofs.Ytfdjeflnjciloaa
