import Derived.Test.YtabpkohcimiceabSeen
import Derived.Test.YtabpkohcimiceabBoxB
import Derived.Deep.QuietTactic
import Derived.BigQuiet
namespace Go.Proofs.Ytabpkohcimiceab
set_option maxRecDepth 100000
set_option maxHeartbeats 1000000
open Go.RowKit
set_option linter.unusedVariables false
def HeldNo (e : Ending) : Prop := ∃ (s : StM) (a : Option Addr) (n c : Nat) (l : Int), e = .returned (.tuple #[.agg (stCells s (.slice a n c)), .int .i64 l, .bool false])
def zeroS : StM := { role := 0, step := 0, sent := 0, got := 0, prev := 0, skip := 0, cap := 0, root := [], out := [], inn := [], secret := 0, peer := 0, kept := [] }
theorem HeldNo.zero : HeldNo (.returned (.tuple #[.agg zeroCells13, .int .i64 0, .bool false])) := ⟨zeroS, none, 0, 0, 0, rfl⟩
end Go.Proofs.Ytabpkohcimiceab
