import Derived.Test.YtabpkohcimiceabGreatPartyM
import Derived.Test.YtabpkohcimiceabGreatReceives
import Derived.Test.YtabpkohcimiceabGreatSends
import Derived.Test.YtabpkohcimiceabGreatLooksW
import Derived.Test.YtabpkohcimiceabGreatCreates
import Derived.Test.YtabpkohcimiceabGreatReplays
import Derived.Test.YtabpkohcimiceabGreatSeals
import Derived.Test.YtabpkohcimiceabGreatPowers
import Derived.Test.YtabpkohcimiceabGreatMixes
import Derived.WalkKit
import Derived.WalkSpells
import Derived.WalkLawsBesides
import Derived.OwnWalk
import Derived.Laws.Rows
import Derived.Deep.QuietTactic
import Derived.BigQuiet
import Derived.Deep.RegionHeld3
import Derived.Deep.DeepMust
import Derived.Deep.DeepCutAuto
import Derived.Deep.AppendLies
namespace Go.Proofs.YtabpkohcimiceabGreat
open Go.RowKit
set_option linter.unusedVariables false
set_option linter.unusedSimpArgs false

/-! ### pawllaw.World -/
def onB (who : Int) : Prop := bits .and .i64 who 1 = 1
instance (who : Int) : Decidable (onB who) := inferInstanceAs (Decidable (_ = _))
def diskOf (A B : ByteArray) (who : Int) : ByteArray := if onB who then B else A

set_option maxRecDepth 100000 in
set_option maxHeartbeats 400000 in
theorem wDisk_any (G : Nat) (A B : ByteArray) (v : Value) (who : Int) (w : World) (hG : w.heap[G]? = some (.cells #[.string A, .string B, v] 26)) :
    Calls Tryz.prog 11 #[.pointer (some ⟨G, 0, none⟩), .int .i64 who] w fun e w' => e = .returned (.string (diskOf A B who)) ∧ w' = w := by
  have k0 : w.cell? ⟨G, 0, none⟩ = some (.string A) := cell_of_row w _ 0 _ _ _ hG
  have k1 : w.cell? ⟨G, 1, none⟩ = some (.string B) := cell_of_row w _ 1 _ _ _ hG
  by_cases h : onB who
  · rw [diskOf, if_pos h]
    unfold onB at h
    clear hG
    go_enter Tryz.func11, Tryz.ntmps11
    go_wp2
    go_ret
    exact ⟨rfl, rfl⟩
  · rw [diskOf, if_neg h]
    unfold onB at h
    clear hG
    go_enter Tryz.func11, Tryz.ntmps11
    go_wp2
    go_ret
    exact ⟨rfl, rfl⟩
end Go.Proofs.YtabpkohcimiceabGreat
