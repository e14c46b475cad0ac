import Derived.Test.YtabpkohcimiceabBookX
import Derived.Test.YtabpkohcimiceabAgrX
namespace Go.Proofs.Ytabpkohcimiceab
set_option maxRecDepth 100000
set_option maxHeartbeats 1000000
open Go.RowKit
set_option linter.unusedVariables false
set_option linter.unusedSimpArgs false
theorem IdsAt.congr {w : World} {v : Value} {l m : List EntM} (h : IdsAt w v l) (hl : m.length = l.length) (he : ∀ i, i < l.length → (m.getD i default).step = (l.getD i default).step ∧ (m.getD i default).count = (l.getD i default).count) : IdsAt w v m := by
  rcases h with ⟨h1, a, c, h2⟩ | ⟨b, off, cap, h1, h2, h3, h4, h5⟩
  · left
    refine ⟨List.length_eq_zero_iff.1 (by rw [hl, h1]; rfl), a, c, h2⟩
  · refine .inr ⟨b, off, cap, by rw [hl]; exact h1, by rw [hl]; exact h2, h3, h4, fun i hi => ?_⟩
    rw [hl] at hi
    obtain ⟨e1, e2⟩ := he i hi; rw [e1, e2]; exact h5 i hi
theorem IdsAt.drop {w : World} {b off n c : Nat} {l : List EntM} (h : IdsAt w (.slice (some ⟨b, off, none⟩) l.length c) l) (hn : n ≤ l.length) (hl : 0 < l.length) : IdsAt w (.slice (some ⟨b, off + n * 2, none⟩) (l.length - n) (c - n)) (l.drop n) := by
  rcases h with ⟨h1, a, c, h2⟩ | ⟨b', off', cap, h1, h2, h3, h4, h5⟩
  · rw [h1] at hl; simp at hl
  · injection h1 with x1 x2 x3
    injection x1 with x1
    injection x1 with x1 x4 x5
    subst x1 x4 x3
    refine .inr ⟨b, off + n * 2, c - n, by rw [List.length_drop], by rw [List.length_drop]; omega, by omega, h4, fun i hi => ?_⟩
    rw [List.length_drop] at hi
    have := h5 (n + i) (by omega)
    rw [List.getD_eq_getElem?_getD, List.getElem?_drop, ← List.getD_eq_getElem?_getD, show off + n * 2 + i * 2 = off + (n + i) * 2 by omega]
    exact this
end Go.Proofs.Ytabpkohcimiceab
