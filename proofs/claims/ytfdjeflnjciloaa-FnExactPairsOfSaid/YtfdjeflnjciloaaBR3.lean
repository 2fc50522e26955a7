/- Contracts of functions of the program and of its model, told over readings. -/
import Derived.Test.YtfdjeflnjciloaaBR2
namespace Go.Proofs.Ytfdjeflnjciloaa
open Go.Lg
set_option maxHeartbeats 1600000
set_option maxRecDepth 10000
set_option linter.unusedVariables false
set_option linter.unusedSimpArgs false

/-- How many integers the rows have. -/
def tot (rows : List (List Int)) : Nat := (rows.map List.length).sum
theorem tot_cons (r : List Int) (rs : List (List Int)) : tot (r :: rs) = r.length + tot rs := by simp [tot]
def markRows : Int → List (List Int) → List (List Int)
  | _, [] => []
  | k, r :: rs => marks k r.length :: markRows (k + r.length) rs
theorem markRows_len : ∀ (k : Int) (rows : List (List Int)), (markRows k rows).length = rows.length
  | _, [] => rfl
  | k, r :: rs => by simp [markRows, markRows_len _ rs]
theorem markRows_snoc : ∀ (k : Int) (rs : List (List Int)) (r : List Int), markRows k (rs ++ [r]) = markRows k rs ++ [marks (k + tot rs) r.length]
  | k, [], r => by simp [markRows, tot]
  | k, x :: xs, r => by
    simp only [List.cons_append, markRows, markRows_snoc _ xs r, tot_cons]
    congr 3; congr 1; omega
theorem tot_snoc (rs : List (List Int)) (r : List Int) : tot (rs ++ [r]) = tot rs + r.length := by simp [tot]

/-- The first i rows marked. -/
def markT (k : Int) (rows : List (List Int)) (i : Nat) : List (List Int) := markRows k (rows.take i) ++ rows.drop i
theorem markT_len {k : Int} {rows : List (List Int)} {i : Nat} (h : i ≤ rows.length) : (markT k rows i).length = rows.length := by simp [markT, markRows_len]; omega
theorem markT_zero (k : Int) (rows : List (List Int)) : markT k rows 0 = rows := by simp [markT, markRows]
theorem markT_all (k : Int) (rows : List (List Int)) : markT k rows rows.length = markRows k rows := by simp [markT]
theorem markT_get {k : Int} {rows : List (List Int)} {i : Nat} (h : i < rows.length) : (markT k rows i)[i]? = some rows[i] := by
  unfold markT
  have hm : (markRows k (rows.take i)).length = i := by rw [markRows_len, List.length_take]; omega
  rw [List.getElem?_append_right (by omega), hm]
  simp [h]
theorem markT_set {k : Int} {rows : List (List Int)} {i : Nat} (h : i < rows.length) : (markT k rows i).set i (marks (k + tot (rows.take i)) rows[i].length) = markT k rows (i + 1) := by
  unfold markT
  have e : rows.take (i + 1) = rows.take i ++ [rows[i]] := by rw [List.take_succ_eq_append_getElem h]
  have hm : (markRows k (rows.take i)).length = i := by rw [markRows_len, List.length_take]; omega
  rw [e, markRows_snoc, List.drop_eq_getElem_cons h, List.set_append_right _ _ (by omega), hm, Nat.sub_self, List.set_cons_zero, List.append_assoc]
  rfl
theorem tot_take_succ {rows : List (List Int)} {i : Nat} (h : i < rows.length) : tot (rows.take (i + 1)) = tot (rows.take i) + rows[i].length := by
  rw [List.take_succ_eq_append_getElem h, tot_snoc]
theorem tot_take_le : ∀ (rows : List (List Int)) (i : Nat), tot (rows.take i) ≤ tot rows
  | [], i => by simp [tot]
  | r :: rs, 0 => by simp [tot]
  | r :: rs, i + 1 => by simp only [List.take_succ_cons, tot_cons]; have := tot_take_le rs i; omega

theorem markIntSS_spec (rows : List (List Int)) (n : Nat) (hn : n = (rows.map rowOw).length) (k : Int) (h0 : 0 ≤ k) (h1 : k + tot rows ≤ 4611686018427387904) :
    HSpec env.P 156 [.hs 0 n, .int .i64 k] [.tree 29 1 (rows.map rowOw)] (.int .i64 (k + tot rows)) [.tree 29 1 ((markRows k rows).map rowOw)] := by
  subst hn
  refine HSpec_of_code (E := env.x [53] 1) env_ok.x (fn := Try.f156) Try.func156 rfl Try.call156 _ _ _ _ ?_
  ((repeat ((conv => whnf); first | refine brT ?_ | refine brF ?_)); conv => whnf)
  refine loop_rule (α := Nat) (fun i => [(5, .int .i64 (i : Int)), (1, .int .i64 (k + tot (rows.take i))), (0, .hs 0 ((markT k rows i).map rowOw).length)]) (fun i => [.tree 29 1 ((markT k rows i).map rowOw)]) (fun i => rows.length - i) (fun i => i ≤ rows.length) 0 (Nat.zero_le _) ?_ ?_
  · have e1 : LV.hs 0 (rows.map rowOw).length = LV.hs 0 ((markT k rows 0).map rowOw).length := by rw [markT_zero]
    have e2 : LV.int .i64 k = LV.int .i64 (k + tot (rows.take 0)) := by simp [tot]
    refine ⟨?_, ⟨congrArg (Blk.tree 29 1) (by rw [markT_zero]), trivial⟩, rfl, rfl⟩
    repeat ((conv => whnf); first | refine ⟨e1, ?_⟩ | refine ⟨e2, ?_⟩ | refine ⟨rfl, ?_⟩)
    trivial
  intro i hi
  have hl : ((markT k rows i).map rowOw).length = rows.length := by rw [List.length_map, markT_len hi]
  ((repeat ((conv => whnf); first | refine brT ?_ | refine brF ?_)); conv => whnf)
  refine ⟨rfl, fun hm => ?_⟩
  have hm' : rows.length ≤ Go.maxLen := by rw [← hl]; exact hm
  ((repeat ((conv => whnf); first | refine brT ?_ | refine brF ?_)); conv => whnf)
  (refine ⟨fun g1 => ?_, fun g1 => ?_⟩ <;> rw [g1])
  · have hlt : i < rows.length := by rw [ltI_t] at g1; omega
    have ht := tot_take_succ hlt
    have hle := tot_take_le rows (i + 1)
    have e := step_i hlt hm'
    have e5 : LV.hs 0 ((markT k rows i).map rowOw).length = LV.hs 0 ((markT k rows (i + 1)).map rowOw).length := by rw [hl, List.length_map, markT_len (by omega)]
    have hg : ((markT k rows i).map rowOw)[i]? = some (rowOw rows[i]) := by rw [List.getElem?_map, markT_get hlt]; rfl
    ((repeat ((conv => whnf); first | refine brT ?_ | refine brF ?_)); conv => whnf)
    refine ⟨rfl, rfl, i, rfl, by omega, ?_⟩
    ((repeat ((conv => whnf); first | refine brT ?_ | refine brF ?_)); conv => whnf)
    refine ⟨rfl, rowOw rows[i], rowOw rows[i], hg, rfl, ?_⟩
    ((repeat ((conv => whnf); first | refine brT ?_ | refine brF ?_)); conv => whnf)
    refine ⟨[1], _, _, _, _, markIntS_spec rows[i] _ rfl (k + tot (rows.take i)) (by omega) (by omega), rfl, rfl, rfl, trivial, ?_⟩
    ((repeat ((conv => whnf); first | refine brT ?_ | refine brF ?_)); conv => whnf)
    have e4 : LV.int .i64 (k + tot (rows.take i) + rows[i].length) = LV.int .i64 (k + tot (rows.take (i + 1))) := by congr 1; omega
    have e6 : ((markT k rows i).map rowOw).set i (rowOw (marks (k + tot (rows.take i)) rows[i].length)) = (markT k rows (i + 1)).map rowOw := by rw [← markT_set hlt, List.map_set]
    refine round_endR [.old 0] (i + 1) hlt (by omega) ⟨?_, ⟨by simp [marks_len], rfl, congrArg (Blk.tree 29 1) e6, trivial⟩, rfl⟩
    repeat ((conv => whnf); first | refine ⟨rfl, e, ?_⟩ | refine ⟨rfl, e4, ?_⟩ | refine ⟨rfl, e5, ?_⟩ | refine ⟨rfl, rfl, ?_⟩)
    trivial
  · have h3 : i = rows.length := by rw [ltI_f] at g1; omega
    subst h3
    ((repeat ((conv => whnf); first | refine brT ?_ | refine brF ?_)); conv => whnf)
    exact ⟨[.int .i64 (k + tot (rows.take rows.length))], by simp [tupOf], rfl, .inl ⟨⟨rfl, trivial⟩, ⟨congrArg (Blk.tree 29 1) (by rw [markT_all]), trivial⟩, rfl, rfl⟩⟩

theorem markRows_get : ∀ (k : Int) (rows : List (List Int)) (i : Nat) (h : i < rows.length), (markRows k rows)[i]? = some (marks (k + tot (rows.take i)) rows[i].length)
  | k, r :: rs, 0, _ => by simp [markRows, tot]
  | k, r :: rs, i + 1, h => by
    simp only [markRows, List.getElem?_cons_succ, List.take_succ_cons, tot_cons, List.getElem_cons_succ]
    rw [markRows_get (k + r.length) rs i (by simpa using h)]
    congr 2; omega

theorem heldIntSS_spec (rows : List (List Int)) (k : Int) (h0 : 0 ≤ k) (h1 : k + tot rows ≤ 4611686018427387904) :
    FSpec env.P 157 [.sl ((markRows k rows).map rowSl), .int .i64 k] (.int .i64 (k + tot rows)) := by
  refine FSpec_of_code env_ok (fn := Try.f157) Try.func157 rfl Try.call157 _ _ ?_
  have hl : ((markRows k rows).map rowSl).length = rows.length := by simp [markRows_len]
  ((repeat ((conv => whnf); first | refine brT ?_ | refine brF ?_)); conv => whnf)
  refine loop_rule (α := Nat) (fun i => [(5, .int .i64 (i : Int)), (1, .int .i64 (k + tot (rows.take i)))]) (fun i => []) (fun i => rows.length - i) (fun i => i ≤ rows.length) 0 (Nat.zero_le _) ?_ ?_
  · have e2 : LV.int .i64 k = LV.int .i64 (k + tot (rows.take 0)) := by simp [tot]
    refine ⟨?_, trivial, rfl, rfl⟩
    ((repeat ((conv => whnf); first | refine ⟨e2, ?_⟩ | refine ⟨rfl, ?_⟩)); trivial)
  intro i hi
  ((repeat ((conv => whnf); first | refine brT ?_ | refine brF ?_)); conv => whnf)
  intro hm
  rw [hl] at hm
  ((repeat ((conv => whnf); first | refine brT ?_ | refine brF ?_)); conv => whnf)
  (refine ⟨fun g1 => ?_, fun g1 => ?_⟩ <;> rw [g1])
  · have hlt : i < rows.length := by rw [ltI_t] at g1; omega
    have ht := tot_take_succ hlt
    have hle := tot_take_le rows (i + 1)
    have e := step_i hlt hm
    have e4 : LV.int .i64 (k + tot (rows.take i) + rows[i].length) = LV.int .i64 (k + tot (rows.take (i + 1))) := by congr 1; omega
    have hg : ((markRows k rows).map rowSl)[i]? = some (rowSl (marks (k + tot (rows.take i)) rows[i].length)) := by
      rw [List.getElem?_map, markRows_get k rows i hlt]; rfl
    ((repeat ((conv => whnf); first | refine brT ?_ | refine brF ?_)); conv => whnf)
    refine ⟨i, _, rfl, hg, rfl, ?_⟩
    ((repeat ((conv => whnf); first | refine brT ?_ | refine brF ?_)); conv => whnf)
    refine ⟨_, heldIntS_spec (k + tot (rows.take i)) rows[i].length (by omega) (by omega), ?_⟩
    ((repeat ((conv => whnf); first | refine brT ?_ | refine brF ?_)); conv => whnf)
    rw [show ltI (k + (tot (rows.take i) : Int) + (rows[i].length : Int)) 0 = false by rw [ltI_f]; omega]
    ((repeat ((conv => whnf); first | refine brT ?_ | refine brF ?_)); conv => whnf)
    refine round_end (i + 1) hlt (by omega) ⟨?_, trivial, rfl, rfl⟩
    repeat ((conv => whnf); first | refine ⟨e, ?_⟩ | refine ⟨e4, ?_⟩ | refine ⟨rfl, ?_⟩)
    trivial
  · have h3 : i = rows.length := by rw [ltI_f] at g1; omega
    subst h3
    ((repeat ((conv => whnf); first | refine brT ?_ | refine brF ?_)); conv => whnf)
    exact ⟨rfl, by simp, List.nodup_nil⟩

theorem markRelation_spec (n : Int) (rows : List (List Int)) (m : Nat) (hm : m = (rows.map rowOw).length) (k : Int) (h0 : 0 ≤ k) (h1 : k + tot rows ≤ 4611686018427387904) :
    HSpec env.P 75 [relHS n 0 m, .int .i64 k] [.tree 29 1 (rows.map rowOw)] (.int .i64 (k + tot rows)) [.tree 29 1 ((markRows k rows).map rowOw)] := by
  refine HSpec_of_code (E := env.x [156] 1) env_ok.x (fn := Try.f75) Try.func75 rfl Try.call75 _ _ _ _ ?_
  ((repeat ((conv => whnf); first | refine brT ?_ | refine brF ?_)); conv => whnf)
  refine ⟨[0], _, _, _, _, markIntSS_spec rows m hm k h0 h1, rfl, rfl, rfl, trivial, ?_⟩
  ((repeat ((conv => whnf); first | refine brT ?_ | refine brF ?_)); conv => whnf)
  exact ⟨[.int .i64 (k + tot rows)], rfl, rfl, .inl ⟨⟨rfl, trivial⟩, ⟨rfl, trivial⟩, rfl, rfl⟩⟩
theorem heldRelation_spec (n : Int) (rows : List (List Int)) (k : Int) (h0 : 0 ≤ k) (h1 : k + tot rows ≤ 4611686018427387904) :
    FSpec env.P 76 [relLV n (markRows k rows), .int .i64 k] (.int .i64 (k + tot rows)) := by
  refine FSpec_of_code env_ok (fn := Try.f76) Try.func76 rfl Try.call76 _ _ ?_
  ((repeat ((conv => whnf); first | refine brT ?_ | refine brF ?_)); conv => whnf)
  refine ⟨_, heldIntSS_spec rows k h0 h1, ?_⟩
  ((repeat ((conv => whnf); first | refine brT ?_ | refine brF ?_)); conv => whnf)
  rw [show ltI (k + (tot rows : Int)) 0 = false by rw [ltI_f]; omega]
  ((repeat ((conv => whnf); first | refine brT ?_ | refine brF ?_)); conv => whnf)
  exact ⟨rfl, rfl, List.nodup_nil⟩
end Go.Proofs.Ytfdjeflnjciloaa
