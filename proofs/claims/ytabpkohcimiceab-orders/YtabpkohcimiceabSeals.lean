import Derived.Test.YtabpkohcimiceabSeal
import Derived.WalkKit
import Derived.WalkSpells
import Derived.WalkLawsBesides
namespace Go.Proofs.Ytabpkohcimiceab
open Go.RowKit
set_option linter.unusedVariables false

theorem again_test (k h s : ByteArray) (c : 8 ≤ s.size) : ((str (sealL k.data.toList h.data.toList (veil k.data.toList (s.data.toList.take (s.size - 8))))).toList == s.toList) = decide (opensL k.data.toList h.data.toList s.data.toList) := by
  rw [Bool.eq_iff_iff, beq_iff_eq, decide_eq_true_eq, ByteArray.toList_eq, ByteArray.toList_eq, str_toList, ← again_iff _ _ _ (by rw [len_list]; exact c), len_list]

theorem sealOut_size (k h t : ByteArray) : (sealOut k h t).size ≤ maxLen := by
  unfold sealOut
  split
  · rename_i g
    rw [str_size, sealL_length, len_list]; unfold maxLen; omega
  · unfold maxLen; exact Nat.zero_le _

end Go.Proofs.Ytabpkohcimiceab
