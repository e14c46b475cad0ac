import Derived.Test.YtabpkohcimiceabTakeA
namespace Go.Proofs.Ytabpkohcimiceab
set_option maxRecDepth 100000
set_option maxHeartbeats 1000000
open Go.RowKit
set_option linter.unusedVariables false
set_option linter.unusedSimpArgs false
def rightR (l : LetM) : Prop := 1 ≤ l.step ∧ l.step ≤ 29 ∧ l.count ≤ 49 ∧ l.prev ≤ 50 ∧ Pub (l.pub : Int)
instance (l : LetM) : Decidable (rightR l) := inferInstanceAs (Decidable (_ ∧ _))
end Go.Proofs.Ytabpkohcimiceab
