/- Contracts of functions of the program and of its model, told over readings. -/
import Derived.Test.YtikbpfcehgmmnaaBT6
import Derived.Test.YtikbpfcehgmmnaaBLgW
namespace Go.Proofs.Ytikbpfcehgmmnaa
open Go.Lg Go.RowKit Go.ChangeShapes Go.WideShapes Go.Deep Go.Joins
set_option linter.unusedVariables false
set_option linter.unusedSimpArgs false
set_option maxRecDepth 100000

theorem per_of_shape : ∀ {ls : List LV}, shapeK [.str, .int .i64, .int .i64, .int .i64, .int .i64, .int .i64] ls → ∃ p : Per, LV.st ls = p.lv ∧ p.name.size ≤ maxLen
  | [a, b, c, d, e, f], h => by
    obtain ⟨⟨s, rfl, hs⟩, ⟨n1, rfl⟩, ⟨n2, rfl⟩, ⟨n3, rfl⟩, ⟨n4, rfl⟩, ⟨n5, rfl⟩, _⟩ := h
    exact ⟨⟨s, n1, n2, n3, n4, n5⟩, rfl, hs⟩
theorem uni_of_shape : ∀ {ls : List LV}, shapeK [.int .i64, .int .i64, .int .i64, .int .i64] ls → ∃ p : Uni, LV.st ls = p.lv ∧ True
  | [b, c, d, e], h => by
    obtain ⟨⟨n1, rfl⟩, ⟨n2, rfl⟩, ⟨n3, rfl⟩, ⟨n4, rfl⟩, _⟩ := h
    exact ⟨⟨n1, n2, n3, n4⟩, rfl, trivial⟩
theorem list_of {α : Type} {lv : α → LV} {Q : α → Prop} : ∀ (xs : List LV), (∀ x ∈ xs, ∃ p, x = lv p ∧ Q p) → ∃ ps : List α, xs = ps.map lv ∧ ∀ p ∈ ps, Q p
  | [], _ => ⟨[], rfl, by simp⟩
  | x :: xs, h => by
    obtain ⟨p, rfl, hp⟩ := h x (by simp)
    obtain ⟨ps, rfl, hps⟩ := list_of xs fun y hy => h y (by simp [hy])
    exact ⟨p :: ps, rfl, List.forall_mem_cons.2 ⟨hp, hps⟩⟩

section
variable {H : Type} {enc : TypeId × Value → H} {w : World}
theorem fam_of_arg {b0 : Nat} {r : Reach} {v : Value} {d : DataW H} {p : List MemPlace} (hv : Value.okWide Try.prog w r b0 38 v) (h : DataW.Trod enc Try.prog w 0 (fun _ => true) true 38 v d p) :
    ∃ ps us, FamOK ps us ∧ RT (pctx (fun _ => False) w) (famLV ps us) v := by
  obtain ⟨v0, v1, y0, y1, n, rfl, _, _, h0, h1⟩ := open_agg2 Try.underlying38 (by kernel_rfl) (by kernel_rfl) hv h
  obtain ⟨xs, r0, l0, s0⟩ := sl_of_rows (O := fun _ => False) (fun _ h => h) (ks := [.str, .int .i64, .int .i64, .int .i64, .int .i64, .int .i64]) Try.underlying35 Try.underlying113 (by kernel_rfl) (by kernel_rfl) (fieldsK_of (by kernel_rfl)) (by decide) h0
  obtain ⟨ys, r1, l1, s1⟩ := sl_of_rows (O := fun _ => False) (fun _ h => h) (ks := [.int .i64, .int .i64, .int .i64, .int .i64]) Try.underlying36 Try.underlying117 (by kernel_rfl) (by kernel_rfl) (fieldsK_of (by kernel_rfl)) (by decide) h1
  obtain ⟨ps, rfl, hps⟩ := list_of (lv := Per.lv) (Q := fun p => p.name.size ≤ maxLen) xs fun x hx => by obtain ⟨ls, rfl, hs⟩ := s0 x hx; exact per_of_shape hs
  obtain ⟨us, rfl, _⟩ := list_of (lv := Uni.lv) (Q := fun _ => True) ys fun x hx => by obtain ⟨ls, rfl, hs⟩ := s1 x hx; exact uni_of_shape hs
  refine ⟨ps, us, ⟨by simpa using l0, by simpa using l1, hps⟩, #[v0, v1], rfl, [v0], [v1], rfl, r0, [v1], [], rfl, r1, by simp [RCs]⟩
end
end Go.Proofs.Ytikbpfcehgmmnaa
