/- Contracts of functions of the program and of its model, told over readings. -/
import Derived.Test.YtfdjeflnjciloaaBT5
namespace Go.Proofs.Ytfdjeflnjciloaa
open Go.Lg
set_option maxHeartbeats 400000
set_option maxRecDepth 10000
set_option linter.unusedVariables false
set_option linter.unusedSimpArgs false

structure FamOK (ps : List Per) (us : List Uni) : Prop where
  p : ps.length ≤ Go.maxLen
  u : us.length ≤ Go.maxLen
  n : ∀ p ∈ ps, p.name.size ≤ Go.maxLen

theorem wrap_sub {n : Int} {k : Nat} (h0 : 0 ≤ n) (h1 : n ≤ 1048576) (hk : k ≤ Go.maxLen) : IntKind.i64.wrap (n - (k : Int)) = n - k := by
  unfold Go.maxLen at hk
  exact wrap64 (by omega) (by omega)
theorem szPer_le {n : Int} {p : Per} (h0 : 0 ≤ n) (h1 : n ≤ 1048576) (hp : p.name.size ≤ Go.maxLen) : szPer n p ≤ n := by
  unfold szPer
  rw [wrap_sub h0 h1 hp]
  split <;> omega
theorem szFold_le : ∀ {ps : List Per} {n : Int}, 0 ≤ n → n ≤ 1048576 → (∀ p ∈ ps, p.name.size ≤ Go.maxLen) → szFold n ps ≤ n
  | [], n, _, _, _ => Int.le_refl n
  | p :: ps, n, h0, h1, h => by
    have h2 := szPer_le h0 h1 (h p (by simp))
    unfold szFold
    split
    · omega
    · rename_i hh
      rw [ltI_f] at hh
      have := szFold_le (ps := ps) hh (by omega) (fun q hq => h q (List.mem_cons_of_mem _ hq))
      omega
theorem szPers_ok {ps : List Per} {n : Int} (h0 : 0 ≤ n) (h1 : n ≤ 1048576) (hl : ps.length ≤ Go.maxLen) (h : ∀ p ∈ ps, p.name.size ≤ Go.maxLen) (hk : 0 ≤ szPers n ps) : (ps.length : Int) ≤ n ∧ szPers n ps ≤ n := by
  unfold szPers at hk ⊢
  rw [wrap_sub h0 h1 hl] at hk ⊢
  split at hk
  · omega
  · rename_i hh
    rw [ltI_f] at hh
    have := szFold_le hh (by omega) h
    exact ⟨by omega, by omega⟩
theorem szUnis_ok {us : List Uni} {n : Int} (h0 : 0 ≤ n) (h1 : n ≤ 1048576) (hl : us.length ≤ Go.maxLen) (hk : 0 ≤ szUnis n us) : (us.length : Int) ≤ n ∧ szUnis n us ≤ n := by
  unfold szUnis at hk ⊢
  rw [wrap_sub h0 h1 hl] at hk ⊢
  split at hk
  · omega
  · rename_i hh
    rw [ltI_f] at hh
    exact ⟨by omega, by omega⟩
theorem szFam_ok {ps : List Per} {us : List Uni} {n : Int} (h0 : 0 ≤ n) (h1 : n ≤ 1048576) (hf : FamOK ps us) (hk : 0 ≤ szFam n ps us) :
    56 * ps.length ≤ 281474976710656 ∧ 32 * us.length ≤ 281474976710656 ∧ szFam n ps us ≤ n := by
  unfold szFam at hk ⊢
  split at hk
  · omega
  · rename_i hh
    rw [ltI_f] at hh
    obtain ⟨a1, a2⟩ := szPers_ok h0 h1 hf.p hf.n hh
    split at hk
    · omega
    · rename_i h3
      rw [ltI_f] at h3
      obtain ⟨b1, b2⟩ := szUnis_ok hh (by omega) hf.u h3
      exact ⟨by omega, by omega, by omega⟩

theorem eqS_refl (s : ByteArray) : eqS s s = true := by unfold eqS; simp
theorem eqI_refl (n : Int) : eqI n n = true := by unfold eqI; simp
theorem Per.eq_refl (p : Per) : p.eq p = true := by simp [Per.eq, eqS_refl, eqI_refl]
theorem Uni.eq_refl (p : Uni) : p.eq p = true := by simp [Uni.eq, eqI_refl]
theorem eqList_refl {α : Type} {eq : α → α → Bool} (h : ∀ x, eq x x = true) : ∀ xs, eqList eq xs xs = true
  | [] => rfl
  | x :: xs => by simp [eqList, h x, eqList_refl h xs]
theorem eqFam_refl (ps : List Per) (us : List Uni) : eqFam ps ps us us = true := by simp [eqFam, eqList_refl Per.eq_refl, eqList_refl Uni.eq_refl]

end Go.Proofs.Ytfdjeflnjciloaa