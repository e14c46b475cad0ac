import Derived.Test.YtabpkohcimiceabSeen
import Derived.Test.YtabpkohcimiceabBoxL
import Derived.Test.YtabpkohcimiceabBoxB
import Derived.WalkKit
import Derived.WalkSpells
import Derived.WalkLawsBesides
import Derived.OwnWalk
import Derived.Laws.ResultCell
import Derived.BigRegion
import Derived.Deep.QuietTactic
import Derived.BigQuiet
import Derived.Deep.DeepCutAuto
namespace Go.Proofs.Ytabpkohcimiceab
open Go.RowKit
set_option linter.unusedVariables false

theorem results_cell_tmp2 {fn : Func} {p u u' : Tmp} {ty : TypeId} (h : fn.results = #[.cell p ty, .tmp u, .tmp u']) (tmps : Array Value) (P : Program) (w : World) :
    (results fn tmps).run P w =
      ((asAddr (tmps.getD p undef)).run P w).andThen fun a w₁ => ((loadVar ty a).run P w₁).andThen fun v w₂ => .ok (.tuple #[v, tmps.getD u undef, tmps.getD u' undef]) w₂ := by
  simp only [results, h]
  simp [Sem.run_bind, Result.andThen]

/-- Held, of a disk whose box is not right: false. -/
def HeldNo (e : Ending) : Prop := ∃ (s : StM) (a : Option Addr) (n c : Nat) (l : Int), e = .returned (.tuple #[.agg (stCells s (.slice a n c)), .int .i64 l, .bool false])
def zeroS : StM := { role := 0, step := 0, sent := 0, got := 0, prev := 0, skip := 0, cap := 0, root := [], out := [], inn := [], secret := 0, peer := 0, kept := [] }
theorem zeroS_cells : stCells zeroS (.slice none 0 0) = zeroCells13 := rfl
theorem HeldNo.zero : HeldNo (.returned (.tuple #[.agg zeroCells13, .int .i64 0, .bool false])) := ⟨zeroS, none, 0, 0, 0, rfl⟩

theorem take_eq (d : ByteArray) (n : Nat) : (d.extract 0 n).data.toList = d.data.toList.take n := by simp [ByteArray.data_extract]
theorem ext_beq (d : ByteArray) (n : Nat) (y : List UInt8) : ((d.extract 0 n).toList == (str y).toList) = decide (d.data.toList.take n = y) := by
  rw [ByteArray.toList_eq, ByteArray.toList_eq, str_toList, take_eq]
  by_cases h : d.data.toList.take n = y
  · rw [decide_eq_true h, h]; simp
  · rw [decide_eq_false h, beq_eq_false_iff_ne]; exact h

end Go.Proofs.Ytabpkohcimiceab

namespace Go.Proofs.Ytabpkohcimiceab
open Go.RowKit
set_option linter.unusedVariables false

end Go.Proofs.Ytabpkohcimiceab

namespace Go.Proofs.Ytabpkohcimiceab
open Go.RowKit
set_option linter.unusedVariables false

end Go.Proofs.Ytabpkohcimiceab

namespace Go.Proofs.Ytabpkohcimiceab
open Go.RowKit
set_option linter.unusedVariables false

end Go.Proofs.Ytabpkohcimiceab
