import Derived.Test.YtabpkohcimiceabHeldA
namespace Go.Proofs.Ytabpkohcimiceab
set_option maxRecDepth 100000
set_option maxHeartbeats 1000000
open Go.RowKit
set_option linter.unusedVariables false
theorem owns_form {w : World} {base n : Nat} {e : TypeId} {v : Value} {xs : List Value} (h : w.ownsRow base e 3 v n xs) : ∃ a m c, v = .slice a m c := by
  rcases h.2 with ⟨h1, _⟩ | ⟨g, cap, _, h1, _⟩
  · exact ⟨none, 0, 0, h1⟩
  · exact ⟨_, _, _, h1⟩
theorem heldS_ok (d : List UInt8) (h : heldOk d) : StOk (heldS d) ∧ (heldS d).kept.length ≤ (heldS d).cap ∧ (heldS d).cap = (d.getD 4 0).toNat := by
  obtain ⟨hh, h6, h7, _⟩ := h; have hl := sideOf_length d hh; obtain ⟨_, h4, _⟩ := hh; obtain ⟨_, _, h3⟩ := halfN_le _ h4
  refine ⟨seen_ok _ _ (by omega) h4 h7, ?_, rfl⟩
  show ((List.range ((sideOf d).getD 7 0).toNat).map (entAt (sideOf d))).length ≤ _
  rw [kept_len]; exact h7
end Go.Proofs.Ytabpkohcimiceab
