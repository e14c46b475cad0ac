import Derived.Test.YtabpkohcimiceabBoxB
import Derived.WalkKit
import Derived.WalkSpells
import Derived.WalkLawsBesides
import Derived.Deep.RegionHeld3
import Derived.Deep.DeepMust
import Derived.Deep.DrawnRows
import Derived.Deep.DeepCutAuto
namespace Go.Proofs.Ytabpkohcimiceab
open Go.RowKit
set_option linter.unusedVariables false
attribute [local go_sem ↓] Go.wp_at_zero Go.wp_at_succ

theorem keysF_no (s : StM) (i : Nat) (h : keyOk s i = false) : ∀ n, i < n → keysF s n = false
  | 0, hn => by omega
  | n + 1, hn => by
    rw [keysF]
    rcases Nat.lt_or_ge i n with h1 | h1
    · rw [keysF_no s i h n h1]; rfl
    · obtain rfl : i = n := by omega
      rw [h]; simp
theorem keys_no (s : StM) (i : Nat) (hi : i < s.kept.length) (h : keyOk s i = false) : keysL s = false := by
  rw [keysL, keysF_no s i h _ hi]; simp

end Go.Proofs.Ytabpkohcimiceab
