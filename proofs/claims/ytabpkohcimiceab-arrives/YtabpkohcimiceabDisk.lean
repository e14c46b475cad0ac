import Derived.Test.YtabpkohcimiceabSeal
namespace Go.Proofs.Ytabpkohcimiceab
set_option maxRecDepth 100000
set_option maxHeartbeats 1000000
open Go.RowKit
set_option linter.unusedVariables false
theorem RecsAt.cells {w : World} {v : Value} {l : List RecM} (h : RecsAt w v l) {j : Nat} (hj : j < l.length) : ∃ g cap, v = .slice (some ⟨g, 0, none⟩) l.length cap ∧ l.length ≤ cap ∧ w.cell? ⟨g, j * 3, none⟩ = some (.bool (l.getD j default).stop) ∧ w.cell? ⟨g, j * 3 + 1, none⟩ = some (.int .i64 ((l.getD j default).to : Int)) ∧ w.cell? ⟨g, j * 3 + 2, none⟩ = some (.string (str (l.getD j default).data)) := by
  have e : l.getD j default = l[j] := by rw [List.getD_eq_getElem?_getD, List.getElem?_eq_getElem hj]; rfl
  rcases h with ⟨_, rfl⟩ | ⟨g, cap, h1, h2, _, h4⟩
  · simp at hj
  · rw [e]; exact ⟨g, cap, h1, h2, h4 j hj⟩
theorem grown_below {w X w2 : World} {v : Value} {n : Nat} {xs : List Value} {e : TypeId} {size : Nat} (hb : Below w.heap.size w X) (hown : X.ownsRow w.heap.size e size v n xs) (hg : X.grownBy w2 v.ownBlock) : Below w.heap.size w w2 :=
  hb.grown hg hb.size (fun k hk => (hown.lt k hk).1)
theorem RecsAt.form {w : World} {v : Value} {l : List RecM} (h : RecsAt w v l) : ∃ a cap, v = .slice a l.length cap := by
  rcases h with ⟨h1, h2⟩ | ⟨g, cap, h1, _⟩
  · exact ⟨none, 0, by rw [h1, h2]; rfl⟩
  · exact ⟨_, cap, h1⟩
end Go.Proofs.Ytabpkohcimiceab
