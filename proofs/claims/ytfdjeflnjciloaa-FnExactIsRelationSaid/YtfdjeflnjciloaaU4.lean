/- Contracts of functions of the program and of its model, told over readings. -/
import Derived.Test.YtfdjeflnjciloaaU3
namespace Go.Proofs.Ytfdjeflnjciloaa
open Go.Lg
set_option maxHeartbeats 400000
set_option maxRecDepth 10000
set_option linter.unusedVariables false
set_option linter.unusedSimpArgs false

def rowD (ds : List Int) (v : Int) (m : Nat) : List LV := (ds ++ v :: List.replicate m 0).map intLV
theorem rowD_len (ds : List Int) (v : Int) (m : Nat) : (rowD ds v m).length = ds.length + 1 + m := by simp [rowD]; omega
theorem rowD_at (ds : List Int) (v : Int) (m : Nat) : getP (.st (rowD ds v m)) [ds.length] = some (.int .i64 v) := by
  simp [rowD, getP, intLV]
theorem rowD_lt {ds : List Int} {v : Int} {m i : Nat} (h : i < ds.length) : getP (.st (rowD ds v m)) [i] = some (.int .i64 ds[i]) := by
  have : (rowD ds v m)[i]? = some (.int .i64 ds[i]) := by
    unfold rowD
    rw [List.getElem?_map, List.getElem?_append_left h, List.getElem?_eq_getElem h]
    rfl
  simp [getP, this]
theorem rowD_set (ds : List Int) (v u : Int) (m : Nat) : (match (rowD ds v m)[ds.length]? with | some z => (rowD ds v m).set ds.length (setP z [] (.int .i64 u)) | none => rowD ds v m) = rowD ds u m := by
  have : (rowD ds v m)[ds.length]? = some (.int .i64 v) := by simp [rowD, intLV]
  rw [this]
  simp only [setP, rowD, List.map_append, List.map_cons]
  rw [List.set_append_right _ _ (by simp)]
  simp [intLV]

def rowK (ps : List Per) (k : Nat) : List LV := (depTo ps k ++ List.replicate (ps.length - k) 0).map intLV
theorem rowK_lt {ps : List Per} {k : Nat} (h : k < ps.length) : rowK ps k = rowD (depTo ps k) 0 (ps.length - k - 1) := by
  unfold rowK rowD
  rw [show ps.length - k = (ps.length - k - 1) + 1 by omega, List.replicate_succ]
  simp
theorem rowK_succ {ps : List Per} {k : Nat} (h : k < ps.length) : rowD (depTo ps k) (dep2 (depTo ps k) ps[k]) (ps.length - k - 1) = rowK ps (k + 1) := by
  unfold rowK rowD
  rw [depTo_succ h, show ps.length - (k + 1) = ps.length - k - 1 by omega]
  simp
theorem rowK_len (ps : List Per) {k : Nat} (h : k ≤ ps.length) : (rowK ps k).length = ps.length := by
  unfold rowK
  simp [depTo_len]; omega

def accD (ds : List Int) (xs : List Int) : Int := xs.foldl (fun a x => maxI a (dep ds x)) 0
theorem accD_known {ds : List Int} {p : Per} {k : Nat} (hr : ∀ v ∈ ds, 0 ≤ v ∧ v ≤ k) (hf : parIn p.father k) (hm : parIn p.mother k) : accD ds (known p) = dep2 ds p := by
  have e1 := dep_range hr p.father
  have e2 := dep_range hr p.mother
  unfold known dep2 accD
  have hn : ∀ x, notNone x = false → dep ds x = 0 := fun x h => by
    unfold notNone at h
    rw [notB_f, eqI_t] at h
    exact dep_none (by rw [leI_f]; omega)
  simp only [List.filter]
  cases h1 : notNone p.father <;> cases h2 : notNone p.mother <;> simp only [List.foldl]
  · rw [hn _ h1, hn _ h2, maxI_zero (by omega)]
  · rw [hn _ h1]
  · rw [hn _ h2, zero_maxI e1.1, maxI_zero e1.1]
  · rw [zero_maxI e1.1]
theorem known_in {p : Per} {k : Nat} (hf : parIn p.father k) (hm : parIn p.mother k) : ∀ x ∈ known p, 0 ≤ x ∧ x < k := by
  intro x hx
  simp only [known, List.mem_filter, List.mem_cons, List.not_mem_nil, or_false] at hx
  obtain ⟨h1, h2⟩ := hx
  unfold notNone at h2
  rw [notB_t, eqI_f] at h2
  rcases h1 with rfl | rfl
  · rcases hf with h | h <;> omega
  · rcases hm with h | h <;> omega
theorem accD_succ {ds xs : List Int} {j : Nat} (h : j < xs.length) : accD ds (xs.take (j + 1)) = maxI (accD ds (xs.take j)) (dep ds xs[j]) := by
  unfold accD
  rw [List.take_succ_eq_append_getElem h, List.foldl_append]
  rfl
theorem accD_range {ds : List Int} {k : Nat} (hr : ∀ v ∈ ds, 0 ≤ v ∧ v ≤ k) (xs : List Int) : 0 ≤ accD ds xs := by
  unfold accD
  have : ∀ (a : Int), 0 ≤ a → 0 ≤ xs.foldl (fun a x => maxI a (dep ds x)) a := by
    induction xs with
    | nil => intro a h; exact h
    | cons x xs ih => intro a h; exact ih _ (le_maxI h)
  exact this 0 (Int.le_refl 0)

/-- impl.depthsOf -/
theorem depthsOf_spec (ps : List Per) (hl : ps.length ≤ 40) (hp : parsIn ps) : FSpec env.P 186 [.sl (ps.map Per.lv)] (.own 3 1 ((depths ps).map intLV)) := by
  refine FSpec_of_code env_ok (fn := Try.f186) Try.func186 rfl Try.call186 _ _ ?_
  ((repeat ((conv => whnf); first | refine brT ?_ | refine brF ?_)); conv => whnf)
  intro hn
  have hn' : ps.length ≤ Go.maxLen := by simpa using hn
  ((repeat ((conv => whnf); first | refine brT ?_ | refine brF ?_)); conv => whnf)
  refine ⟨ps.length, by simp, by simp, by (show 8 * ps.length ≤ 281474976710656); omega, hn', rfl, by decide, ?_⟩
  ((repeat ((conv => whnf); first | refine brT ?_ | refine brF ?_)); conv => whnf)
  intro _
  ((repeat ((conv => whnf); first | refine brT ?_ | refine brF ?_)); conv => whnf)
  refine loop_rule (α := Nat) (fun k => [(13, .int .i64 (k : Int)), (3, .hs 0 (rowK ps k).length)]) (fun k => [.arr 3 1 (rowK ps k)])
    (fun k => ps.length - k) (fun k => k ≤ ps.length) 0 (Nat.zero_le _) ?_ ?_
  · have e0 : List.replicate ps.length (LV.int .i64 0) = rowK ps 0 := by simp [rowK, depTo, intLV]
    have e1 : LV.hs 0 ps.length = LV.hs 0 (rowK ps 0).length := by rw [rowK_len ps (Nat.zero_le _)]
    refine ⟨?_, ⟨congrArg (Blk.arr 3 1) e0, trivial⟩, rfl, rfl⟩
    ((repeat ((conv => whnf); first | refine ⟨e1, ?_⟩ | refine ⟨rfl, ?_⟩)); trivial)
  intro k hk
  ((repeat ((conv => whnf); first | refine brT ?_ | refine brF ?_)); conv => whnf)
  (refine ⟨fun h1 => ?_, fun h1 => ?_⟩ <;> rw [h1])
  · have hlt : k < ps.length := by rw [ltI_t] at h1; simp at h1; omega
    have hps := hp k hlt
    have hdl := depTo_len ps k
    have hrg := depTo_range ps k
    have e := step_i hlt hn'
    ((repeat ((conv => whnf); first | refine brT ?_ | refine brF ?_)); conv => whnf)
    refine ⟨k, ps[k].lv, rfl, by simp [hlt], rfl, ?_⟩
    ((repeat ((conv => whnf); first | refine brT ?_ | refine brF ?_)); conv => whnf)
    refine ⟨_, knownParents_spec ps[k], ?_⟩
    ((repeat ((conv => whnf); first | refine brT ?_ | refine brF ?_)); conv => whnf)
    intro hkn
    ((repeat ((conv => whnf); first | refine brT ?_ | refine brF ?_)); conv => whnf)
    have hkl : (known ps[k]).length ≤ Go.maxLen := by simpa using hkn
    refine loop_rule (α := Nat) (fun j => [(21, .int .i64 (j : Int)), (3, .hs 0 (rowD (depTo ps k) (accD (depTo ps k) ((known ps[k]).take j)) (ps.length - k - 1)).length)])
      (fun j => [.arr 3 1 (rowD (depTo ps k) (accD (depTo ps k) ((known ps[k]).take j)) (ps.length - k - 1)), .box ps[k].lv])
      (fun j => (known ps[k]).length - j) (fun j => j ≤ (known ps[k]).length) 0 (Nat.zero_le _) ?_ ?_
    · have e0 : rowK ps k = rowD (depTo ps k) (accD (depTo ps k) ((known ps[k]).take 0)) (ps.length - k - 1) := rowK_lt hlt
      have e1 := congrArg (fun l : List LV => LV.hs 0 l.length) e0
      refine ⟨?_, ⟨congrArg (Blk.arr 3 1) e0, rfl, trivial⟩, rfl, rfl⟩
      ((repeat ((conv => whnf); first | refine ⟨e1, ?_⟩ | refine ⟨rfl, ?_⟩)); trivial)
    intro j hj
    ((repeat ((conv => whnf); first | refine brT ?_ | refine brF ?_)); conv => whnf)
    (refine ⟨fun g1 => ?_, fun g1 => ?_⟩ <;> rw [g1])
    · have hjl : j < (known ps[k]).length := by rw [ltI_t] at g1; simp at g1; omega
      have hx := known_in hps.1 hps.2 _ (List.getElem_mem hjl)
      obtain ⟨hxl, hxd⟩ := dep_some hdl hx.1 hx.2
      have hxr := hrg _ (List.getElem_mem hxl)
      have he := step_i hjl hkl
      have hat : ∀ (v : Int) (m : Nat), getP (.st (rowD (depTo ps k) v m)) [k] = some (.int .i64 v) := fun v m => by have := rowD_at (depTo ps k) v m; rw [hdl] at this; exact this
      have hlen := rowD_len (depTo ps k) (accD (depTo ps k) ((known ps[k]).take j)) (ps.length - k - 1)
      ((repeat ((conv => whnf); first | refine brT ?_ | refine brF ?_)); conv => whnf)
      refine ⟨j, .int .i64 (known ps[k])[j], rfl, by simp [hjl, intLV], rfl, ?_⟩
      ((repeat ((conv => whnf); first | refine brT ?_ | refine brF ?_)); conv => whnf)
      refine ⟨by kernel_rfl, ?_⟩
      ((repeat ((conv => whnf); first | refine brT ?_ | refine brF ?_)); conv => whnf)
      refine ⟨rfl, rfl, k, rfl, by omega, ?_⟩
      ((repeat ((conv => whnf); first | refine brT ?_ | refine brF ?_)); conv => whnf)
      refine ⟨rfl, by simp, _, hat _ _, rfl, ?_⟩
      ((repeat ((conv => whnf); first | refine brT ?_ | refine brF ?_)); conv => whnf)
      refine ⟨rfl, rfl, (known ps[k])[j].toNat, by omega, by omega, ?_⟩
      ((repeat ((conv => whnf); first | refine brT ?_ | refine brF ?_)); conv => whnf)
      refine ⟨rfl, by simp, _, rowD_lt hxl, rfl, ?_⟩
      ((repeat ((conv => whnf); first | refine brT ?_ | refine brF ?_)); conv => whnf)
      refine ⟨rfl, rfl, k, rfl, by omega, ?_⟩
      ((repeat ((conv => whnf); first | refine brT ?_ | refine brF ?_)); conv => whnf)
      refine ⟨rfl, k, [], .int .i64 (accD (depTo ps k) ((known ps[k]).take j)), rfl, hat _ _, rfl, rfl, rfl, _, rfl, ?_⟩
      ((repeat ((conv => whnf); first | refine brT ?_ | refine brF ?_)); conv => whnf)
      have e2 : (match (rowD (depTo ps k) (accD (depTo ps k) ((known ps[k]).take j)) (ps.length - k - 1))[k]? with
          | some z => (rowD (depTo ps k) (accD (depTo ps k) ((known ps[k]).take j)) (ps.length - k - 1)).set k (setP z [] (.int .i64 (maxI (accD (depTo ps k) ((known ps[k]).take j)) (IntKind.i64.wrap ((depTo ps k)[(known ps[k])[j].toNat] + 1)))))
          | none => rowD (depTo ps k) (accD (depTo ps k) ((known ps[k]).take j)) (ps.length - k - 1)) = rowD (depTo ps k) (accD (depTo ps k) ((known ps[k]).take (j + 1))) (ps.length - k - 1) := by
        rw [accD_succ hjl, hxd, wrap64 (by omega) (by omega)]
        have := rowD_set (depTo ps k) (accD (depTo ps k) ((known ps[k]).take j)) (maxI (accD (depTo ps k) ((known ps[k]).take j)) ((depTo ps k)[(known ps[k])[j].toNat] + 1)) (ps.length - k - 1)
        rw [hdl] at this
        exact this
      have e3 : LV.hs 0 (rowD (depTo ps k) (accD (depTo ps k) ((known ps[k]).take j)) (ps.length - k - 1)).length = LV.hs 0 (rowD (depTo ps k) (accD (depTo ps k) ((known ps[k]).take (j + 1))) (ps.length - k - 1)).length := by rw [rowD_len, rowD_len]
      refine round_end (j + 1) hjl (by omega) ⟨?_, ⟨congrArg (Blk.arr 3 1) e2, rfl, trivial⟩, rfl, rfl⟩
      repeat ((conv => whnf); first | refine ⟨he, ?_⟩ | refine ⟨e3, ?_⟩ | refine ⟨rfl, ?_⟩)
      trivial
    · have hj3 : j = (known ps[k]).length := by rw [ltI_f] at g1; simp at g1; omega
      subst hj3
      have e2 : rowD (depTo ps k) (accD (depTo ps k) ((known ps[k]).take (known ps[k]).length)) (ps.length - k - 1) = rowK ps (k + 1) := by
        rw [List.take_length, accD_known hrg hps.1 hps.2]
        exact rowK_succ hlt
      have e3 := congrArg (fun l : List LV => LV.hs 0 l.length) e2
      ((repeat ((conv => whnf); first | refine brT ?_ | refine brF ?_)); conv => whnf)
      refine round_end (k + 1) hlt (by omega) ⟨?_, ⟨congrArg (Blk.arr 3 1) e2, trivial⟩, rfl, rfl⟩
      repeat ((conv => whnf); first | refine ⟨e, ?_⟩ | refine ⟨e3, ?_⟩ | refine ⟨rfl, ?_⟩)
      trivial
  · have h3 : k = ps.length := by rw [ltI_f] at h1; simp at h1; omega
    subst h3
    ((repeat ((conv => whnf); first | refine brT ?_ | refine brF ?_)); conv => whnf)
    exact ⟨rfl, rfl, rfl, by simp [rowK, depths], by simp⟩
end Go.Proofs.Ytfdjeflnjciloaa
