import Derived.Test.YtabpkohcimiceaaGreatNew
import Derived.Test.YtabpkohcimiceaaGreatBoxB
import Derived.WalkKit
import Derived.WalkSpells
import Derived.WalkLawsBesides
import Derived.Deep.QuietTactic
import Derived.BigQuiet
namespace Go.Proofs.YtabpkohcimiceaaGreat
open Go.RowKit
set_option linter.unusedVariables false

theorem disk_factsD {d : ByteArray} (h : isDiskL d.data.toList = true) : ∃ k, d.size = k * 32 ∧ 1 ≤ k ∧ k ≤ 40 := by
  rw [isDiskL, decide_eq_true_eq, len_list] at h
  exact ⟨d.size / 32, by omega, by omega, by omega⟩
theorem below_drewN (B : Nat) (w : World) (n : Nat) : Below B w (w.drewN n) := ⟨rfl, rfl, rfl, Nat.le_refl _, fun _ _ => rfl⟩

end Go.Proofs.YtabpkohcimiceaaGreat

namespace Go.Proofs.YtabpkohcimiceaaGreat
open Go.RowKit
set_option linter.unusedVariables false

theorem str_beq2 (a : ByteArray) (y : List UInt8) : (a.toList == (str y).toList) = decide (a.data.toList = y) := by
  rw [ByteArray.toList_eq, ByteArray.toList_eq, str_toList]
  by_cases h : a.data.toList = y
  · rw [decide_eq_true h, h]; simp
  · rw [decide_eq_false h, beq_eq_false_iff_ne]; exact h

end Go.Proofs.YtabpkohcimiceaaGreat
