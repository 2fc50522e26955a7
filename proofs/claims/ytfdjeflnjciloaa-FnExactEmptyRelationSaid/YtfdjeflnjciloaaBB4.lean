/- Contracts of functions of the program and of its model, told over readings. -/
import Derived.Test.YtfdjeflnjciloaaBB3
namespace Go.Proofs.Ytfdjeflnjciloaa
open Go.Lg
set_option maxHeartbeats 1600000
set_option maxRecDepth 10000
set_option linter.unusedVariables false
set_option linter.unusedSimpArgs false

/-- The places of a line that are true, below k. -/
def lineTo (l : List Bool) (k : Nat) : List Int := List.map (fun i : Nat => (i : Int)) (List.filter (fun i : Nat => l.getD i false) (List.range k))
def lineN (l : List Bool) : List Int := lineTo l l.length
theorem lineTo_len (l : List Bool) (k : Nat) : (lineTo l k).length ≤ k := by
  unfold lineTo
  rw [List.length_map]
  exact Nat.le_trans (List.length_filter_le _ _) (by simp)
theorem lineTo_succ {l : List Bool} {k : Nat} (h : k < l.length) : lineTo l (k + 1) = lineTo l k ++ (match l[k] with | true => [(k : Int)] | false => []) := by
  unfold lineTo
  rw [List.range_succ, List.filter_append, List.map_append]
  congr 1
  have : l.getD k false = l[k] := by simp [List.getD_eq_getElem?_getD, h]
  simp only [List.filter_cons, List.filter_nil, this]
  cases l[k] <;> rfl

theorem l2Of_h (g : List (List Bool)) (hg : g.length ≤ 40) (hl : ∀ l ∈ g, l.length ≤ 40) :
    HSpec env.P 154 [.sl (g.map lineSl)] [] (relHS g.length 0 ((g.map lineN).map rowOw).length) [.tree 29 1 ((g.map lineN).map rowOw)] := by
  refine HSpec_of_code (E := env.x [] 0) env_ok.x (fn := Try.f154) Try.func154 rfl Try.call154 _ _ _ _ ?_
  have hgl : (g.map lineSl).length = g.length := by simp
  ((repeat ((conv => whnf); first | refine brT ?_ | refine brF ?_)); conv => whnf)
  intro hm
  rw [hgl]
  ((repeat ((conv => whnf); first | refine brT ?_ | refine brF ?_)); conv => whnf)
  intro _
  rw [hgl]
  ((repeat ((conv => whnf); first | refine brT ?_ | refine brF ?_)); conv => whnf)
  refine loop_ruleN (α := Nat) [.box 1 [1] true 29 1] [.old 0, .old 1, .old 2] (fun k => [(14, .int .i64 (k : Int))])
    (fun k => [.box (.st [.int .i64 0, .nil]), .box (.st [.int .i64 (g.length : Int), .hs 2 (((g.take k).map lineN).map rowOw).length]), .tree 29 1 (((g.take k).map lineN).map rowOw)]) (fun k => g.length - k) (fun k => k ≤ g.length) 0 (Nat.zero_le _) ?_ ?_
  · refine ⟨?_, ⟨rfl, rfl, rfl, rfl, rfl, rfl, trivial⟩, rfl⟩
    ((repeat ((conv => whnf); refine ⟨rfl, rfl, ?_⟩)); trivial)
  intro k hk
  ((repeat ((conv => whnf); first | refine brT ?_ | refine brF ?_)); conv => whnf)
  (refine ⟨fun h1 => ?_, fun h1 => ?_⟩ <;> rw [h1])
  · have hlt : k < g.length := by rw [ltI_t] at h1; omega
    have e := step_i (n := g.length) hlt (by unfold Go.maxLen; omega)
    have hll := hl g[k] (List.getElem_mem hlt)
    have hgk : (g.map lineSl)[k]? = some (lineSl g[k]) := by simp [hlt]
    have htk : g.take (k + 1) = g.take k ++ [g[k]] := List.take_succ_eq_append_getElem hlt
    generalize g[k] = l at hll hgk htk
    ((repeat ((conv => whnf); first | refine brT ?_ | refine brF ?_)); conv => whnf)
    refine ⟨k, lineSl l, rfl, hgk, rfl, ?_⟩
    ((repeat ((conv => whnf); first | refine brT ?_ | refine brF ?_)); conv => whnf)
    intro hml
    ((repeat ((conv => whnf); first | refine brT ?_ | refine brF ?_)); conv => whnf)
    refine loop_rule (α := Nat) (fun i => [(18, .undef), (21, .int .i64 (i : Int)), (6, .hs 3 ((lineTo l i).map intLV).length)])
      (fun i => [.box (.st [.int .i64 0, .nil]), .box (.st [.int .i64 (g.length : Int), .hs 2 (((g.take k).map lineN).map rowOw).length]), .tree 29 1 (((g.take k).map lineN).map rowOw), .arr 3 1 ((lineTo l i).map intLV)]) (fun i => l.length - i) (fun i => i ≤ l.length) 0 (Nat.zero_le _) ?_ ?_
    · refine ⟨?_, ⟨rfl, rfl, rfl, rfl, trivial⟩, rfl, rfl⟩
      ((repeat ((conv => whnf); refine ⟨rfl, ?_⟩)); trivial)
    intro i hi
    ((repeat ((conv => whnf); first | refine brT ?_ | refine brF ?_)); conv => whnf)
    (refine ⟨fun h2 => ?_, fun h2 => ?_⟩ <;> rw [h2])
    · have hil : i < l.length := by rw [ltI_t] at h2; simp at h2; omega
      have e' := step_i (n := l.length) hil (by unfold Go.maxLen; omega)
      have hsu := lineTo_succ hil
      have hl0 := lineTo_len l i
      have hl1 := lineTo_len l (i + 1)
      ((repeat ((conv => whnf); first | refine brT ?_ | refine brF ?_)); conv => whnf)
      refine ⟨i, bLV l[i], rfl, by simp [hil], rfl, ?_⟩
      ((repeat ((conv => whnf); first | refine brT ?_ | refine brF ?_)); conv => whnf)
      (refine ⟨fun h3 => ?_, fun h3 => ?_⟩ <;> rw [h3])
      · rw [h3] at hsu
        have e2 : ((lineTo l i).map intLV ++ [LV.int .i64 (i : Int)]) = (lineTo l (i + 1)).map intLV := by rw [hsu, List.map_append]; rfl
        have e3 : LV.hs 3 ((lineTo l i).map intLV ++ [LV.int .i64 (i : Int)]).length = LV.hs 3 ((lineTo l (i + 1)).map intLV).length := by rw [e2]
        ((repeat ((conv => whnf); first | refine brT ?_ | refine brF ?_)); conv => whnf)
        refine ⟨rfl, rfl, by rw [e2]; unfold Go.maxLen; simp; omega, by rw [e2]; simp; omega, ?_⟩
        ((repeat ((conv => whnf); first | refine brT ?_ | refine brF ?_)); conv => whnf)
        refine round_endR [.old 0, .old 1, .old 2, .old 5] (i + 1) hil (by omega) ⟨?_, ⟨rfl, rfl, rfl, rfl, rfl, rfl, rfl, congrArg (Blk.arr 3 1) e2, trivial⟩, rfl⟩
        repeat ((conv => whnf); first | refine ⟨rfl, e', ?_⟩ | refine ⟨rfl, e3, ?_⟩ | refine ⟨rfl, rfl, ?_⟩)
        trivial
      · rw [h3, List.append_nil] at hsu
        have e3 : LV.hs 3 ((lineTo l i).map intLV).length = LV.hs 3 ((lineTo l (i + 1)).map intLV).length := by rw [hsu]
        ((repeat ((conv => whnf); first | refine brT ?_ | refine brF ?_)); conv => whnf)
        refine round_endR [.old 0, .old 1, .old 2, .old 3] (i + 1) hil (by omega) ⟨?_, ⟨rfl, rfl, rfl, rfl, rfl, rfl, rfl, congrArg (Blk.arr 3 1) (by rw [hsu]), trivial⟩, rfl⟩
        repeat ((conv => whnf); first | refine ⟨rfl, e', ?_⟩ | refine ⟨rfl, e3, ?_⟩ | refine ⟨rfl, rfl, ?_⟩)
        trivial
    · have hil : i = l.length := by rw [ltI_f] at h2; simp at h2; omega
      subst hil
      have e4 : (((g.take k).map lineN).map rowOw ++ [LV.own 3 1 ((lineTo l l.length).map intLV)]) = ((g.take (k + 1)).map lineN).map rowOw := by
        rw [htk, List.map_append, List.map_append]; rfl
      have hkl : (((g.take (k + 1)).map lineN).map rowOw).length = k + 1 := by simp; omega
      ((repeat ((conv => whnf); first | refine brT ?_ | refine brF ?_)); conv => whnf)
      refine ⟨rfl, ?_⟩
      ((repeat ((conv => whnf); first | refine brT ?_ | refine brF ?_)); conv => whnf)
      refine ⟨rfl, rfl, by show (_ ++ [LV.own 3 1 _]).length ≤ _; rw [e4, hkl]; unfold Go.maxLen; omega, by show (_ ++ [LV.own 3 1 _]).length * 24 ≤ _; rw [e4, hkl]; omega, ?_⟩
      ((repeat ((conv => whnf); first | refine brT ?_ | refine brF ?_)); conv => whnf)
      have e := step_i (n := g.length) hlt (by unfold Go.maxLen; omega)
      have e5 : LV.st [LV.int .i64 (g.length : Int), LV.hs 2 (((g.take k).map lineN).map rowOw ++ [LV.own 3 1 ((lineTo l l.length).map intLV)]).length] = LV.st [LV.int .i64 (g.length : Int), LV.hs 2 (((g.take (k + 1)).map lineN).map rowOw).length] := by rw [e4]
      refine round_endR [.old 0, .old 1, .old 5] (k + 1) hlt (by omega) ⟨?_, ⟨rfl, rfl, rfl, congrArg Blk.box e5, rfl, congrArg (Blk.tree 29 1) e4, trivial⟩, rfl⟩
      repeat ((conv => whnf); first | refine ⟨rfl, e, ?_⟩ | refine ⟨rfl, rfl, ?_⟩)
      trivial
  · have h3 : k = g.length := by rw [ltI_f] at h1; omega
    subst h3
    ((repeat ((conv => whnf); first | refine brT ?_ | refine brF ?_)); conv => whnf)
    refine ⟨[relHS g.length 0 (((g.take g.length).map lineN).map rowOw).length], by simp [tupOf], rfl, .inr ⟨[.old 2], ⟨rfl, rfl, trivial⟩, ⟨rfl, congrArg (Blk.tree 29 1) (by rw [List.take_length]), trivial⟩, rfl⟩⟩
end Go.Proofs.Ytfdjeflnjciloaa
